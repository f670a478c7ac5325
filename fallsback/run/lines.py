"""Lines: to where the processes go back when some of them fail."""

from fallsback.base.programs import check_apart, check_failed, check_process
from fallsback.base.turns import is_clean_in
from fallsback.base.words import is_below, is_integer
from fallsback.errors import InvalidLine, InvalidNumber, InvalidOperation
from fallsback.run.pieces import arrow_table, fall_of, places_of, reached, taken_letters
from fallsback.run.runs import check_run, pose_of


def places(run, process):
    """The ascending tuple of the places of a process."""
    check_run(run)
    check_process(run.program, process)
    return tuple(places_of(run, process))


def is_clean(run, process):
    """Whether a process has taken nothing since its last place."""
    check_run(run)
    check_process(run.program, process)
    return is_clean_in(pose_of(run), run.program.processes.index(process))


def piece_at(run, index):
    """The piece (process, place) in which the step with this index lies."""
    check_run(run)
    if not is_below(index, len(run)):
        raise InvalidNumber(index)
    turn, _, own, _, _, _ = run.beats[index]
    if turn.process is None:
        raise InvalidOperation("a vanishing lies in no piece")
    name = run.program.processes[turn.process]
    return (name, max([place for place in places_of(run, name) if place <= own]))


def is_line(run, value):
    """Whether the value gives each process one of its places, or its present."""
    check_run(run)
    names = run.program.processes
    if not isinstance(value, dict) or len(value) != len(names) or not all([name in value for name in names]):
        return False
    return all([is_integer(value[name]) and value[name] in _cuts(run, name) for name in names])


def is_sound(run, line):
    """Whether the line is sound."""
    check_run(run)
    if not is_line(run, line):
        raise InvalidLine("this is no line of the run")
    counts = _letter_counts(run)
    return all([_fits(run.program, kind, counts[kind], line) for kind in run.program.kinds])


def fall_line(run, *failed):
    """The line to which all processes go back if these fail."""
    check_run(run)
    check_failed(run.program, failed)
    line, _, _ = fall_of(run, failed)
    return line


def thrown_back(run, *failed):
    """The ascending tuple of the indices of the steps that are thrown back if these processes fail."""
    check_run(run)
    check_failed(run.program, failed)
    _, back, _ = fall_of(run, failed)
    return tuple(back)


def lost(run, *failed):
    """The dict from all processes to their losses if these fail."""
    check_run(run)
    check_failed(run.program, failed)
    _, _, paid = fall_of(run, failed)
    return paid


def each_sound(run, *failed):
    """All sound lines with a place for each of these processes, ascending by their values."""
    check_run(run)
    check_apart(run.program, failed)
    names = run.program.processes
    counts = _letter_counts(run)
    choices = [places_of(run, name) if name in failed else _cuts(run, name) for name in names]
    ahead = [()]
    while ahead:
        values = ahead.pop()
        if len(values) == len(names):
            yield dict(zip(names, values))
        else:
            longer = [values + (value,) for value in choices[len(values)]]
            ahead.extend([found for found in longer[::-1] if _is_sound_so_far(run.program, counts, found)])


def arrows(run):
    """The ascending tuple of all arrows, pairs of different pieces."""
    check_run(run)
    table = arrow_table(run)
    return tuple(sorted([(piece, other) for piece in table for other in table[piece]]))


def led_to(run, process, place):
    """The ascending tuple of the pieces to which the piece (process, place) leads."""
    check_run(run)
    check_process(run.program, process)
    if not is_integer(place) or place not in places_of(run, process):
        raise InvalidNumber(place)
    return tuple(sorted(reached(arrow_table(run), [(process, place)])))


def _cuts(run, process):
    """The ascending list of the numbers that a line can give the process."""
    found = places_of(run, process)
    many = len(run.own(process))
    return found if many == found[-1] else found + [many]


def _letter_counts(run):
    """For each kind two lists: how many of its taken letters the first steps of the sender, for each number of them,
    have sent, and how many those of the receiver have taken.
    """
    counts = {}
    for kind in run.program.kinds:
        sender, receiver, _, _ = run.program[kind]
        letters = taken_letters(run, kind)
        counts[kind] = (_running_count(run.own(sender), [sent for sent, _ in letters]),
                        _running_count(run.own(receiver), [taken for _, taken in letters]))
    return counts


def _running_count(own, found):
    """For each number from 0 on, how many of so many first ones are among those found."""
    counts = [0]
    known = set(found)
    for at in own:
        counts.append(counts[-1] + (1 if at in known else 0))
    return counts


def _is_sound_so_far(program, counts, values):
    """Whether the last one of the values fits the others, which are those of the first processes in a line."""
    line = dict(zip(program.processes, values))
    newest = program.processes[len(values) - 1]
    return all([_fits(program, kind, counts[kind], line) for kind in program.kinds
                if newest in program[kind][:2] and all([end in line for end in program[kind][:2]])])


def _fits(program, kind, counts, line):
    """Whether the letters of this kind let the line be sound."""
    sender, receiver, _, sure = program[kind]
    sent_counts, taken_counts = counts
    # Letters are taken in the order of their sends, so the numbers tell which of them are ahead of the line.
    sent, taken = sent_counts[line[sender]], taken_counts[line[receiver]]
    return taken == sent if sure else taken <= sent
