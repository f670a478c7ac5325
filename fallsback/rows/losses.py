"""Greatest losses: how much a failure of one process can cost another one, in any run."""

from fallsback.base.programs import check_process, check_program
from fallsback.base.turns import CODES, is_placed
from fallsback.base.words import is_integer
from fallsback.rows.graphs import greatest_prices, groups_of, marked, numbers_in, shortest_path, turned
from fallsback.rows.spots import bits, first_spot, mask_behind, slot_in, spot_behind
from fallsback.rows.standings import atlas_of, full_atlas, numbers_by_text, told_standings
from fallsback.run.lines import lost
from fallsback.run.runs import run_of


class Entries:
    """The entries of all standings with one process, numbered from 0 on.

    `pairs` has for each entry the pair (number of the standing, code of the holder), and `numbers` the number for each
    pair. `held` has for each holder the list of its entries. `links` has the steps that lead them, `groups` the entries
    that lead to one another, and `prices` for each the greatest price of the steps that lead to it, None if there is
    none.
    """

    def __init__(self, atlas, process):
        self.pairs = [(number, code) for number, (_, grid) in enumerate(atlas.spots)
                      for code in bits(slot_in(grid, process))]
        self.numbers = {pair: entry for entry, pair in enumerate(self.pairs)}
        self.held = [[] for _ in range(CODES)]
        for entry, (_, code) in enumerate(self.pairs):
            self.held[code].append(entry)
        self.links = [[] for _ in self.pairs]
        for number, ways in enumerate(atlas.ways):
            pose, grid = atlas.spots[number]
            codes = bits(slot_in(grid, process))
            for turn, later in ways:
                price = turn.price if turn.process == process else 0
                stays = turn.act in (None, "vanish") and not is_placed(pose, turn)
                for code in codes:
                    row = self.links[self.numbers[number, code]]
                    for other in [code] if stays else bits(mask_behind(pose, grid, turn, 1 << code)):
                        row.append((self.numbers[later, other], price, turn.step))
        self.groups = groups_of(self.links)
        self.prices = greatest_prices(self.links, self.groups)

    def greatest(self, holder):
        """The greatest price at the entries of this holder, 0 if it has none, None if there is no greatest one."""
        found = [self.prices[entry] for entry in self.held[holder]]
        return None if None in found else max(found, default=0)


def entries_of(atlas, process):
    """The entries with the process with this code."""
    if ("entries", process) not in atlas.known:
        atlas.known["entries", process] = Entries(atlas, process)
    return atlas.known["entries", process]


def greatest_loss(program, failed, process):
    """The greatest loss that a failure of the first process causes to the second one, None if there is none."""
    _check_names(program, failed, process)
    names = program.processes
    return entries_of(full_atlas(program), names.index(process)).greatest(names.index(failed))


def losses(program):
    """The dict from all processes that fail to dicts from all processes to their greatest losses."""
    check_program(program)
    names = program.processes
    atlas = full_atlas(program)
    return {failed: {process: entries_of(atlas, code).greatest(holder) for code, process in enumerate(names)}
            for holder, failed in enumerate(names)}


def loss_paper(program, failed, process):
    """Any paper that shows the greatest loss: ("near", table, steps), or ("far", holder, u, v, w) if there is none."""
    _check_names(program, failed, process)
    atlas = full_atlas(program)
    entries = entries_of(atlas, program.processes.index(process))
    holder = program.processes.index(failed)
    leading = marked(turned(entries.links), entries.held[holder])
    if entries.greatest(holder) is None:
        return _far_paper(program, atlas, entries, leading, holder)
    steps = _dear_steps(atlas, entries, leading, holder)
    return ("near", _near_table(program, atlas, entries, leading, process), steps)


def is_loss_paper(program, failed, process, value):
    """Whether the value is a loss paper for these processes."""
    _check_names(program, failed, process)
    if not isinstance(value, tuple):
        return False
    if len(value) == 3 and value[0] == "near":
        return _is_near(program, failed, process, value[1], value[2])
    return len(value) == 5 and value[0] == "far" and _is_far(program, failed, process, value[1], value[2:])


def _check_names(program, failed, process):
    check_program(program)
    check_process(program, failed)
    check_process(program, process)


def _near_table(program, atlas, entries, leading, process):
    """The dict from the standings to dicts from their entries that lead to the goals to their prices."""
    found = [{} for _ in atlas.spots]
    for entry, (number, code) in enumerate(entries.pairs):
        if leading[entry]:
            found[number][program.labels[code], process] = entries.prices[entry]
    return {standing: found[number] for _, standing, number in told_standings(program, atlas)}


def _dear_steps(atlas, entries, leading, holder):
    """The steps of a run behind which the price of one of the dearest entries is as great as it can be."""
    prices, greatest = entries.prices, entries.greatest(holder)
    dearest = {entry: True for entry in entries.held[holder] if prices[entry] == greatest}
    if not dearest:
        return ()
    # Along links that leave nothing of the price out, the price of the run is that of the entry.
    tight = [[link for link in row if leading[link[0]] and prices[link[0]] == prices[entry] + link[1]]
             if leading[entry] else [] for entry, row in enumerate(entries.links)]
    starts = [entry for entry, price in enumerate(prices) if leading[entry] and price == 0]
    start, steps = shortest_path(tight, starts, dearest)
    number, _ = entries.pairs[start]
    return atlas.steps_to(number) + steps


def _far_paper(program, atlas, entries, leading, holder):
    """The paper for a loss without bound: a way round that costs something, and the ways to it and from it."""
    links = entries.links
    group_of = numbers_in(entries.groups, len(links))
    dear = [(entry, other, step) for entry, row in enumerate(links) if leading[entry]
            for other, price, step in row if price > 0 and group_of[entry] == group_of[other]]
    entry, other, step = dear[0]
    inner = [[link for link in row if group_of[link[0]] == group_of[entry]] for row in links]
    _, back = shortest_path(inner, [other], {entry: True})
    _, last = shortest_path(links, [entry], {goal: True for goal in entries.held[holder]})
    number, code = entries.pairs[entry]
    return ("far", program.labels[code], atlas.steps_to(number), (step,) + back, last)


def _is_near(program, failed, process, table, steps):
    """Whether the table shows that no loss is greater than the one behind these steps."""
    run, atlas = run_of(program, steps), atlas_of(program)
    if run is None or atlas is None:
        return False
    given = _given_numbers(program, atlas, table)
    if given is None:
        return False
    most = lost(run, failed)[process]
    code = program.processes.index(process)
    for entry in entries_of(atlas, code).held[program.processes.index(failed)]:
        number = given[code].get(entry)
        if number is None or number > most:
            return False
    return all([_are_kept(entries_of(atlas, at).links, numbers) for at, numbers in enumerate(given) if numbers])


def _given_numbers(program, atlas, table):
    """For each process the dict from the entries with it to their integers, without those that have none.

    It is None instead if the table has not the form. What is equal to a standing or an entry, but has another text, is
    none: True is not 1.
    """
    if not isinstance(table, dict) or len(table) != len(atlas.spots):
        return None
    numbers = numbers_by_text(program, atlas)
    codes = {repr(label): code for code, label in enumerate(program.labels) if label is not None}
    given = [{} for _ in program.processes]
    for standing in table:
        number, row = numbers.get(repr(standing)), table[standing]
        if number is None or not isinstance(row, dict):
            return None
        for pair in row:
            process, entry = _entry_told(program, atlas, number, codes, pair)
            if entry is None or not is_integer(row[pair]) or row[pair] < 0:
                return None
            given[process][entry] = row[pair]
    return given


def _entry_told(program, atlas, number, codes, pair):
    """The code of the process and the number of the entry that the pair is at this standing, or None."""
    if not isinstance(pair, tuple) or len(pair) != 2 or pair[1] not in program.processes:
        return None, None
    process = program.processes.index(pair[1])
    return process, entries_of(atlas, process).numbers.get((number, codes.get(repr(pair[0]))))


def _are_kept(links, numbers):
    """Whether the integers behind each step are at least those of the entries that it leads, with its price."""
    for entry, row in enumerate(links):
        number = numbers.get(entry)
        for other, price, _ in row:
            least = numbers.get(other)
            if least is not None and (number is None or number + price > least):
                return False
    return True


def _is_far(program, failed, process, holder, parts):
    """Whether of the parts u, v, w the second one costs something and leads the entry of the holder to itself behind
    the first one, and the third one leads it to that of the failed process.
    """
    if not all([isinstance(part, tuple) for part in parts]):
        return False
    u, v, w = parts
    run = run_of(program, u + v + w)
    if run is None:
        return False
    turns = [turn for turn, _, _, _, _, _ in run.beats]
    other = program.processes.index(process)
    spot, _, _ = _carried(first_spot(program), 0, other, turns[:len(u)])
    codes = [code for code, label in enumerate(program.labels) if label is not None and repr(label) == repr(holder)]
    if not codes or not slot_in(spot[1], other) >> codes[0] & 1:
        return False
    again, round_mask, paid = _carried(spot, 1 << codes[0], other, turns[len(u):len(u) + len(v)])
    if again != spot or paid == 0 or not round_mask >> codes[0] & 1:
        return False
    _, last_mask, _ = _carried(spot, 1 << codes[0], other, turns[len(u) + len(v):])
    return last_mask >> program.processes.index(failed) & 1 == 1


def _carried(spot, mask, process, turns):
    """The spot behind the turns, the mask of the holders to which they lead those of the mask, and what they cost.

    The entries are those of the holders in the masks with this process.
    """
    pose, grid = spot
    paid = 0
    for turn in turns:
        paid += turn.price if turn.process == process else 0
        mask = mask_behind(pose, grid, turn, mask)
        pose, grid = spot_behind(pose, grid, turn)
    return (pose, grid), mask, paid
