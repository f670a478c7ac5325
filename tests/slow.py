"""A slow second look at runs, lines, rows, standings and papers, straight from the words of the document."""

from itertools import product

ENDLESS = float("inf")


def play(program, steps):
    """The states, the lanes and what happened, (process, own number, move, sent, taken), or None if it is no run."""
    states = {name: 0 for name in program.processes}
    lanes = {kind: [] for kind in program.kinds}
    numbers = {name: 0 for name in program.processes}
    told = []
    for at, (name, number) in enumerate(steps):
        if name in lanes:
            if program[name][3] or number >= len(lanes[name]):
                return None
            told.append((None, None, None, None, lanes[name].pop(number)))
            continue
        moves = program[name].states[states[name]]
        if number >= len(moves):
            return None
        act, kind, target, _, _ = moves[number]
        ended = None
        if act == "send":
            if len(lanes[kind]) == program[kind][2]:
                return None
            lanes[kind].append(at)
        if act == "take":
            if not lanes[kind]:
                return None
            ended = lanes[kind].pop(0)
        states[name] = target
        told.append((name, numbers[name], moves[number], at if act == "send" else None, ended))
        numbers[name] += 1
    return states, lanes, told


def nexts(program, steps):
    """All steps that can come next, ascending."""
    found = [(name, number) for name in program.processes + program.kinds for number in range(7)]
    return tuple(sorted(step for step in found if play(program, steps + (step,)) is not None))


def own_moves(told, process):
    return [move for name, _, move, _, _ in told if name == process]


def places(told, process):
    found, takes = [0], 0
    for number, move in enumerate(own_moves(told, process)):
        if move[4] == "save" or (move[4] == "note" and takes == 0):
            found.append(number + 1)
            takes = 0
        elif move[0] == "take":
            takes += 1
    return found


def is_clean(told, process):
    last = places(told, process)[-1]
    return all(move[0] != "take" for move in own_moves(told, process)[last:])


def lines(program, told, failed=()):
    """All lines that have a place for each of these processes."""
    choices = []
    for name in program.processes:
        found = set(places(told, name))
        if name not in failed:
            found.add(len(own_moves(told, name)))
        choices.append(sorted(found))
    return [dict(zip(program.processes, values)) for values in product(*choices)]


def is_sound(program, told, line):
    for name, number, move, _, ended in told:
        if name is None or ended is None:
            continue
        sender, sent_number, _, _, _ = told[ended]
        sent_ahead = sent_number < line[sender]
        taken_ahead = number < line[name]
        if taken_ahead and not sent_ahead:
            return False
        if program[move[1]][3] and sent_ahead and not taken_ahead:
            return False
    return True


def fall_line(program, told, failed):
    """The one of all sound lines at which no process is further back than at any other one."""
    sound = [line for line in lines(program, told, failed) if is_sound(program, told, line)]
    latest = [one for one in sound if all(one[name] >= other[name] for other in sound for name in one)]
    assert len(latest) == 1
    return latest[0]


def thrown_back(program, told, failed):
    line = fall_line(program, told, failed)
    return tuple(at for at, (name, number, _, _, _) in enumerate(told) if name is not None and number >= line[name])


def lost(program, told, failed):
    back = thrown_back(program, told, failed)
    return {name: sum(told[at][2][3] for at in back if told[at][0] == name) for name in program.processes}


def left(program, steps, failed):
    told = play(program, steps)[2]
    back = thrown_back(program, told, failed)
    found = []
    for at, step in enumerate(steps):
        name, _, move, _, ended = told[at]
        if name is None:
            if ended not in back:
                found.append(step)
        elif at not in back:
            found.append(step)
        elif ended is not None and ended not in back:
            found.append((move[1], 0))
    return tuple(found)


def pieces(program, told):
    """The piece of each step, and the list of all pieces."""
    of_steps = []
    for name, number, _, _, _ in told:
        piece = None if name is None else (name, max(p for p in places(told, name) if p <= number))
        of_steps.append(piece)
    return of_steps, [(name, place) for name in program.processes for place in places(told, name)]


def arrows(program, told):
    of_steps, every = pieces(program, told)
    found = set()
    for one, other in zip(every, every[1:]):
        if one[0] == other[0]:
            found.add((one, other))
    for at, (name, _, move, _, ended) in enumerate(told):
        if name is not None and ended is not None:
            found.add((of_steps[ended], of_steps[at]))
            if program[move[1]][3]:
                found.add((of_steps[at], of_steps[ended]))
    return found


def led_to(program, told, piece):
    found, many = {piece}, 0
    edges = arrows(program, told)
    while many < len(found):
        many = len(found)
        found |= {other for one, other in edges if one in found}
    return found


def rows(program, steps):
    """The rows of all holders, by pieces and arrows."""
    _, lanes, told = play(program, steps)
    of_steps, _ = pieces(program, told)
    under_way = [((kind, at), of_steps[sent]) for kind in sorted(lanes) for at, sent in enumerate(lanes[kind])]
    starts = [(name, (name, places(told, name)[-1])) for name in program.processes]
    starts += [(letter, piece) for letter, piece in under_way if program[letter[0]][3]]
    found = {}
    for holder, piece in starts:
        reach = led_to(program, told, piece)
        prices = {}
        for name in program.processes:
            if (name, places(told, name)[-1]) in reach:
                prices[name] = sum(told[at][2][3] for at, own in enumerate(of_steps) if own in reach and own[0] == name)
        found[holder] = (prices, tuple(letter for letter, own in under_way if own in reach))
    return found


def standing(program, steps):
    states, lanes, told = play(program, steps)
    return (
        tuple(states[name] for name in program.processes),
        tuple(len(lanes[kind]) for kind in program.kinds),
        tuple(is_clean(told, name) for name in program.processes),
        tuple((holder, tuple(prices), letters) for holder, (prices, letters) in rows(program, steps).items()),
    )


def step_on(program, ahead, step):
    """The standing behind a step, and the triples (entry, entry, price) that it leads, by names."""
    states = dict(zip(program.processes, ahead[0]))
    lanes = dict(zip(program.kinds, ahead[1]))
    clean = dict(zip(program.processes, ahead[2]))
    old = {holder: (set(names), set(letters)) for holder, names, letters in ahead[3]}
    new = {holder: (set(names), set(letters)) for holder, (names, letters) in old.items()}
    made = {holder: {holder} for holder in old}
    name, number = step
    gone, price = None, 0
    if name in program.kinds:
        gone = (name, number)
    else:
        act, kind, states[name], price, keeping = program[name][states[name], number]
        if act == "send":
            letter = (kind, lanes[kind])
            lanes[kind] += 1
            for names, letters in new.values():
                if name in names:
                    letters.add(letter)
            if program[kind][3]:
                new[letter] = (set(new[name][0]), set(new[name][1]))
                made[letter] = {name}
        if act == "take":
            gone = (kind, 0)
            for holder, (names, letters) in old.items():
                if gone in letters:
                    unite(new[holder], old[name])
                    made[holder].add(name)
                if program[kind][3] and name in names:
                    unite(new[holder], old[gone])
                    made[holder].add(gone)
    if gone is not None:
        lanes[gone[0]] -= 1
        new, made = without(new, made, gone)
    if name in states:
        placed = keeping == "save" or (keeping == "note" and clean[name])
        if placed:
            new[name], made[name] = ({name}, set()), set()
        clean[name] = placed or (clean[name] and act != "take")
    leads = [((source, process), (holder, process), price if process == name else 0)
             for holder in made for source in made[holder] for process in old[source][0]]
    order = sorted(holder for holder in new if isinstance(holder, str))
    order += sorted(holder for holder in new if isinstance(holder, tuple))
    told = tuple((holder, tuple(sorted(new[holder][0])), tuple(sorted(new[holder][1]))) for holder in order)
    return (tuple(states.values()), tuple(lanes.values()), tuple(clean.values()), told), leads


def unite(row, other):
    row[0].update(other[0])
    row[1].update(other[1])


def without(table, made, gone):
    """The rows and what they are made of when a letter has gone and the later ones of its lane have moved up."""
    def moved(holder):
        if isinstance(holder, tuple) and holder[0] == gone[0] and holder[1] > gone[1]:
            return (holder[0], holder[1] - 1)
        return holder

    new = {
        moved(holder): (names, {moved(letter) for letter in letters if letter != gone})
        for holder, (names, letters) in table.items() if holder != gone
    }
    return new, {moved(holder): made[holder] for holder in made if holder != gone}


def possible_at(program, ahead):
    """The steps that are possible at a standing, ascending."""
    lanes = dict(zip(program.kinds, ahead[1]))
    found = [(kind, at) for kind in program.kinds if not program[kind][3] for at in range(lanes[kind])]
    for name, state in zip(program.processes, ahead[0]):
        for number, (act, kind, _, _, _) in enumerate(program[name][state]):
            full = act == "send" and lanes[kind] == program[kind][2]
            empty = act == "take" and lanes[kind] == 0
            if not full and not empty:
                found.append((name, number))
    return sorted(found)


def explore(program):
    """The dict from all standings to the triples (step, standing behind it, leads)."""
    first = standing(program, ())
    found, ahead = {}, [first]
    while ahead:
        here = ahead.pop()
        if here not in found:
            found[here] = [(step,) + step_on(program, here, step) for step in possible_at(program, here)]
            ahead.extend(later for _, later, _ in found[here])
    return found


def entries(here):
    return [(holder, name) for holder, names, _ in here[3] for name in names]


def greatest_losses(program):
    """The dict from pairs (failed, process) to greatest losses, ENDLESS if there is none."""
    world = explore(program)
    prices = {(here, entry): 0 for here in world for entry in entries(here)}
    edges = [((here, one), (later, other), price) for here in world for _, later, leads in world[here]
             for one, other, price in leads]
    # A path that can still be made dearer behind so many rounds goes round somewhere, at a price.
    many, changed = 0, True
    while changed:
        many, changed = many + 1, False
        for one, other, price in edges:
            paid = prices[one] + price
            if paid > prices[other]:
                prices[other] = paid if many <= len(prices) else ENDLESS
                changed = True
    return {(failed, process): max([prices[key] for key in prices if key[1] == (failed, process)], default=0)
            for failed in program.processes for process in program.processes}


def is_steps(program, value):
    """Whether the value is a tuple of the steps of a run."""
    if not isinstance(value, tuple):
        return False
    for step in value:
        if not (isinstance(step, tuple) and len(step) == 2 and isinstance(step[0], str)):
            return False
        if step[0] not in program or step[1].__class__ is not int or step[1] < 0:
            return False
    return play(program, value) is not None


def is_touch_paper(program, failed, process, value):
    if not (isinstance(value, tuple) and len(value) == 2):
        return False
    if value[0] == "run":
        if not is_steps(program, value[1]):
            return False
        told = play(program, value[1])[2]
        return any(told[at][0] == process for at in thrown_back(program, told, [failed]))
    if value[0] != "never":
        return False
    world = explore(program)
    if any((failed, process) in entries(here) for here in world):
        return False
    return repr(value[1]) == repr(tuple(sorted(world, key=repr)))


def is_loss_paper(program, failed, process, value):
    if not isinstance(value, tuple) or len(value) not in (3, 5):
        return False
    if value[0] == "near" and len(value) == 3:
        return is_near(program, failed, process, *value[1:])
    return value[0] == "far" and len(value) == 5 and is_far(program, failed, process, *value[1:])


def is_near(program, failed, process, table, steps):
    if not is_steps(program, steps) or not isinstance(table, dict):
        return False
    world = explore(program)
    if sorted(map(repr, table)) != sorted(map(repr, world)):
        return False
    for here in world:
        if not isinstance(table[here], dict):
            return False
        for entry, number in table[here].items():
            if repr(entry) not in [repr(right) for right in entries(here)]:
                return False
            if number.__class__ is not int or not 0 <= number < 10 ** 60:
                return False
    loss = lost(program, play(program, steps)[2], [failed])[process]
    for here in world:
        if (failed, process) in entries(here) and not table[here].get((failed, process), ENDLESS) <= loss:
            return False
        for _, later, leads in world[here]:
            for one, other, price in leads:
                if other in table[later] and not table[here].get(one, ENDLESS) + price <= table[later][other]:
                    return False
    return True


def is_far(program, failed, process, holder, u, v, w):
    if not all(isinstance(part, tuple) for part in (u, v, w)) or not is_steps(program, u + v + w):
        return False
    ahead = standing(program, u)
    if standing(program, u + v) != ahead or repr((holder, process)) not in [repr(entry) for entry in entries(ahead)]:
        return False
    round_holders, paid = carry(program, ahead, {holder}, process, v)
    last_holders, _ = carry(program, ahead, {holder}, process, w)
    return holder in round_holders and paid >= 1 and failed in last_holders


def carry(program, here, holders, process, steps):
    """The holders to whose entries the steps lead those of these, and the price of the steps of the process."""
    paid = 0
    for name, number in steps:
        if name == process:
            paid += program[name][here[0][program.processes.index(name)], number][3]
        here, leads = step_on(program, here, (name, number))
        holders = {other for (one, at), (other, _), _ in leads if one in holders and at == process}
    return holders, paid
