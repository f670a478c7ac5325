"""A slow second look at what can still be thrown back, straight from the words of the document."""

from tests.slow import is_steps, led_to, left, nexts, own_moves, pieces, places, play, standing


def begins(program, steps):
    """The dict from the pairs (holder, process) to the places at which the row of the holder begins in the process."""
    _, lanes, told = play(program, steps)
    of_steps, _ = pieces(program, told)
    starts = {name: (name, places(told, name)[-1]) for name in program.processes}
    for kind in program.kinds:
        if program[kind][3]:
            starts.update({(kind, at): of_steps[sent] for at, sent in enumerate(lanes[kind])})
    found = {}
    for holder, piece in starts.items():
        reach = led_to(program, told, piece)
        for name in program.processes:
            if (name, places(told, name)[-1]) in reach:
                found[holder, name] = min(place for other, place in reach if other == name)
    return found


def held(program, steps):
    """The dict from the processes to the places at which rows begin."""
    found = begins(program, steps)
    return {name: sorted({found[pair] for pair in found if pair[1] == name}) for name in program.processes}


def layout(program, steps):
    """The layout of a run, word by word."""
    found, kept = begins(program, steps), held(program, steps)
    told = play(program, steps)[2]
    states = tuple(tuple(state_at(told, name, place) for place in kept[name]) for name in program.processes)
    numbers = tuple(sorted((repr(pair), kept[pair[1]].index(place)) for pair, place in found.items()))
    return standing(program, steps), states, numbers


def state_at(told, process, place):
    """The state of the process behind so many of its steps."""
    moves = own_moves(told, process)
    return moves[place - 1][2] if place else 0


def follow(program, steps, event):
    """The steps of the run that is left behind an event, or None if it is none that follows."""
    if event and all(isinstance(name, str) for name in event):
        return left(program, steps, event)
    return steps + (event,) if play(program, steps + (event,)) is not None else None


def events_at(program, steps):
    """All steps that can come next, and the failures of one process each."""
    return list(nexts(program, steps)) + [(name,) for name in program.processes]


def layouts(program, steps):
    """The dict from all layouts behind a run to one of the runs that have it."""
    found, ahead = {}, [steps]
    while ahead:
        here = ahead.pop()
        told = layout(program, here)
        if told not in found:
            found[told] = here
            ahead.extend(follow(program, here, event) for event in events_at(program, here))
    return found


def thrown_to(program, steps, event, process):
    """The place to which a failure throws the process back, or None."""
    found = begins(program, steps)
    return min([found[name, process] for name in event if (name, process) in found], default=None)


def needed(program, steps):
    """The dict from the processes to their needed places, by a search through all layouts with one place marked."""
    return {name: tuple(place for place in places(play(program, steps)[2], name)
                        if is_needed(program, steps, name, place)) for name in program.processes}


def is_needed(program, steps, process, place):
    seen, ahead = set(), [steps]
    while ahead:
        here = ahead.pop()
        # Behind the marked place all goes on in the same way from runs with one layout.
        key = (layout(program, here), sum(1 for at in held(program, here)[process] if at < place),
               place in held(program, here)[process])
        if key in seen:
            continue
        seen.add(key)
        for event in events_at(program, here):
            if isinstance(event[-1], str):
                back = thrown_to(program, here, event, process)
                if back == place:
                    return True
                if back is not None and back < place:
                    continue
            ahead.append(follow(program, here, event))
    return False


def is_recall(program, steps, process, place, value):
    """Whether the value tells events that follow, the last one a failure whose row begins at the place then."""
    return last_fall(program, steps, process, value, lambda back: back < place, lambda back: back == place)


def is_unsettling(program, steps, index, value):
    process, own = play(program, steps)[2][index][:2]
    return last_fall(program, steps, process, value, lambda back: back <= own, lambda back: back <= own)


def last_fall(program, steps, process, value, ends, is_last):
    """Whether the last one of the events throws the process back as it should, and none ahead of it too far."""
    if not isinstance(value, tuple) or not value:
        return False
    for at, event in enumerate(value):
        back = None
        if is_failure(program, event):
            back = thrown_to(program, steps, event, process)
            steps = left(program, steps, event)
        elif is_steps(program, steps + (event,)):
            steps += (event,)
        else:
            return False
        if at == len(value) - 1:
            return is_failure(program, event) and len(event) == 1 and back is not None and is_last(back)
        if back is not None and ends(back):
            return False
    return False


def is_failure(program, event):
    if not isinstance(event, tuple) or not event or not all(isinstance(name, str) for name in event):
        return False
    return all(name in program.processes for name in event) and list(event) == sorted(set(event))


def soon_thrown_to(program, steps, many):
    """The pairs (process, place) of the places to which at most so many events, the last one a failure, throw back."""
    found = set()
    marked = {name: places(play(program, steps)[2], name) for name in program.processes}
    ahead = [(steps, marked)]
    for _ in range(many):
        later = {}
        for here, marks in ahead:
            for event in events_at(program, here):
                left_marks = marks
                if isinstance(event[-1], str):
                    backs = {name: thrown_to(program, here, event, name) for name in marks}
                    found |= {(name, back) for name, back in backs.items() if back in marks[name]}
                    left_marks = {name: [at for at in marks[name] if backs[name] is None or at <= backs[name]]
                                  for name in marks}
                left_steps = follow(program, here, event)
                later[left_steps, repr(left_marks)] = (left_steps, left_marks)
        ahead = list(later.values())
    return found
