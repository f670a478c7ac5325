"""Greatest losses: how much a failure of one process can cost another one, in any run."""

from fallsback.base.programs import check_process, check_program
from fallsback.base.words import is_integer
from fallsback.rows.graphs import greatest_prices, groups_of, numbers_in, shortest_path, turned
from fallsback.rows.spots import bits, first_spot, holders_at, name_of, payment, spot_behind, standing_at
from fallsback.rows.standings import Atlas, atlas_of
from fallsback.run.lines import lost
from fallsback.run.pieces import reached
from fallsback.run.runs import run_of


def greatest_loss(program, failed, process):
    """The greatest loss that a failure of the first process causes to the second one, None if there is none."""
    _check_names(program, failed, process)
    links = _leads(Atlas(program), program.processes.index(process))
    return _greatest(greatest_prices(links, groups_of(links)), program.processes.index(failed))


def losses(program):
    """The dict from all processes that fail to dicts from all processes to their greatest losses."""
    check_program(program)
    atlas = Atlas(program)
    names = program.processes
    found = {failed: {} for failed in names}
    for number, process in enumerate(names):
        links = _leads(atlas, number)
        prices = greatest_prices(links, groups_of(links))
        for holder, failed in enumerate(names):
            found[failed][process] = _greatest(prices, holder)
    return found


def loss_paper(program, failed, process):
    """Any paper that shows the greatest loss: ("near", table, steps), or ("far", holder, u, v, w) if there is none."""
    _check_names(program, failed, process)
    atlas = Atlas(program)
    links = _leads(atlas, program.processes.index(process))
    groups = groups_of(links)
    prices = greatest_prices(links, groups)
    holder = program.processes.index(failed)
    if _greatest(prices, holder) is None:
        return _far_paper(program, atlas, links, groups, holder)
    return _near_paper(program, atlas, links, prices, holder, process)


def is_loss_paper(program, failed, process, value):
    """Whether the value is a loss paper for these processes."""
    _check_names(program, failed, process)
    if not isinstance(value, tuple):
        return False
    if len(value) == 3 and value[0] == "near":
        return _is_near(program, failed, process, value[1], value[2])
    return len(value) == 5 and value[0] == "far" and _is_far(program, failed, process, value[1], value[2:])


def _check_names(program, failed, process):
    check_program(program)
    check_process(program, failed)
    check_process(program, process)


def _leads(atlas, process):
    """The graph of the entries with this process: nodes (number of a standing, code of a holder), led by steps."""
    links = {}
    for number, spot in enumerate(atlas.spots):
        for code in holders_at(spot):
            if spot[3][code] >> process & 1:
                links[number, code] = []
    for number, ways in enumerate(atlas.ways):
        for step, later, sources, payer, price in ways:
            cost = price if payer == process else 0
            for code, mask in enumerate(sources):
                for source in bits(mask):
                    if (number, source) in links:
                        links[number, source].append(((later, code), cost, step))
    return links


def _greatest(prices, holder):
    """The greatest price at the entries of this holder, 0 if it has none, None if there is no greatest one."""
    found = [prices[node] for node in prices if node[1] == holder]
    return None if None in found else max(found, default=0)


def _goals(links, holder):
    """The dict whose keys are the entries of this holder."""
    return {node: True for node in links if node[1] == holder}


def _near_paper(program, atlas, links, prices, holder, process):
    """The paper for a greatest loss: the prices of all entries that lead to those of the holder, and a dear run."""
    goals = _goals(links, holder)
    leading = reached(turned(links), goals)
    table = {}
    told = [(standing_at(program, spot), number) for number, spot in enumerate(atlas.spots)]
    for standing, number in sorted(told, key=lambda pair: repr(pair[0])):
        codes = [code for code in holders_at(atlas.spots[number]) if (number, code) in leading]
        table[standing] = {(name_of(program, code), process): prices[number, code] for code in codes}
    greatest = _greatest(prices, holder)
    dearest = {node: True for node in goals if prices[node] == greatest}
    return ("near", table, _dear_steps(atlas, links, prices, leading, dearest))


def _dear_steps(atlas, links, prices, leading, dearest):
    """The steps of a run behind which the price of one of the dearest entries is as great as it can be."""
    if not dearest:
        return ()
    # Along links that leave nothing of the price out, the price of the run is that of the entry.
    tight = {node: [(other, price, step) for other, price, step in links[node]
                    if other in leading and prices[other] == prices[node] + price] for node in leading}
    start, steps = shortest_path(tight, [node for node in leading if prices[node] == 0], dearest)
    return atlas.steps_to(start[0]) + steps


def _far_paper(program, atlas, links, groups, holder):
    """The paper for a loss without bound: a way round that costs something, and the ways to it and from it."""
    goals = _goals(links, holder)
    leading = reached(turned(links), goals)
    numbers = numbers_in(groups)
    dear = [(node, other, step) for node in leading for other, price, step in links[node]
            if price > 0 and numbers[node] == numbers[other]]
    node, other, step = dear[0]
    inner = {inside: [link for link in links[inside] if numbers[link[0]] == numbers[node]]
             for inside in groups[numbers[node]]}
    _, back = shortest_path(inner, [other], {node: True})
    _, last = shortest_path(links, [node], goals)
    return ("far", name_of(program, node[1]), atlas.steps_to(node[0]), (step,) + back, last)


def _is_near(program, failed, process, table, steps):
    """Whether the table shows that no loss is greater than the one behind these steps."""
    run, atlas = run_of(program, steps), atlas_of(program)
    if run is None or atlas is None:
        return False
    given = _given_numbers(program, atlas, table)
    if given is None:
        return False
    most = lost(run, failed)[process]
    holder, other = program.processes.index(failed), program.processes.index(process)
    for number, spot in enumerate(atlas.spots):
        if spot[3][holder] >> other & 1 and not 0 <= given[number].get((holder, other), -1) <= most:
            return False
    return all([_are_kept(atlas.spots[number], given[number], given[way[1]], way)
                for number, ways in enumerate(atlas.ways) for way in ways])


def _given_numbers(program, atlas, table):
    """For each standing the dict from (holder, process), in codes, to its integer; None if the table has not the form.

    What is equal to a standing or an entry, but has another text, is none: True is not 1.
    """
    if not isinstance(table, dict) or len(table) != len(atlas.spots):
        return None
    rows = {repr(standing): table[standing] for standing in table}
    given = []
    for spot in atlas.spots:
        row = rows.get(repr(standing_at(program, spot)))
        if not isinstance(row, dict):
            return None
        codes = _entry_codes(program, spot)
        if not all([repr(entry) in codes and is_integer(row[entry]) and row[entry] >= 0 for entry in row]):
            return None
        given.append({codes[repr(entry)]: row[entry] for entry in row})
    return given


def _entry_codes(program, spot):
    """The dict from the texts of the entries at a spot to their pairs (holder, process) in codes."""
    return {repr((name_of(program, code), name)): (code, process) for code in holders_at(spot)
            for process, name in enumerate(program.processes) if spot[3][code] >> process & 1}


def _are_kept(spot, numbers, later_numbers, way):
    """Whether the integers behind a step are at least those of the entries that it leads, with its price."""
    _, _, sources, payer, price = way
    for code, process in later_numbers:
        cost = price if payer == process else 0
        for source in bits(sources[code]):
            if spot[3][source] >> process & 1:
                number = numbers.get((source, process))
                if number is None or number + cost > later_numbers[code, process]:
                    return False
    return True


def _is_far(program, failed, process, holder, parts):
    """Whether of the parts u, v, w the second one costs something and leads the entry of the holder to itself behind
    the first one, and the third one leads it to that of the failed process.
    """
    if not all([isinstance(part, tuple) for part in parts]):
        return False
    u, v, w = parts
    if run_of(program, u + v + w) is None:
        return False
    other = program.processes.index(process)
    spot, _, _ = _carried(program, first_spot(program), 0, other, u)
    codes = _entry_codes(program, spot)
    if repr((holder, process)) not in codes:
        return False
    code, _ = codes[repr((holder, process))]
    again, round_mask, paid = _carried(program, spot, 1 << code, other, v)
    if again != spot or paid == 0 or code not in bits(round_mask):
        return False
    _, last_mask, _ = _carried(program, spot, 1 << code, other, w)
    return program.processes.index(failed) in bits(last_mask)


def _carried(program, spot, mask, process, steps):
    """The spot behind the steps, the mask of the holders to which they lead those of the mask, and what they cost.

    The entries are those of the holders in the masks with this process.
    """
    paid = 0
    for step in steps:
        payer, price = payment(program, spot, step)
        paid += price if payer == process else 0
        spot, sources = spot_behind(program, spot, step)
        mask = sum([1 << code for code, parts in enumerate(sources) if parts & mask])
    return spot, mask, paid
