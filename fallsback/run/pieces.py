"""Pieces: what the steps of a run are between two places, and the arrows between them."""


def places_of(run, process):
    """The ascending list of the places of the process."""
    code = run.program.processes.index(process)
    return [0] + [own + 1 for turn, _, own, placed, _, _ in run.beats if placed and turn.process == code]


def chart_of(run):
    """The dict from all pieces to dicts whose keys are the pieces to which arrows go from them; for each step the piece
    in which it lies, None for a vanishing; and for each process its open piece.
    """
    names = run.program.processes
    newest = [(name, 0) for name in names]
    table = {piece: {} for piece in newest}
    pieces = []
    for turn, sent, own, placed, _, _ in run.beats:
        piece = None if turn.process is None else newest[turn.process]
        pieces.append(piece)
        if turn.act == "take":
            table[pieces[sent]][piece] = True
            if turn.sure:
                table[piece][pieces[sent]] = True
        if placed:
            later = (names[turn.process], own + 1)
            table[piece][later] = True
            table[later] = {}
            newest[turn.process] = later
    return table, pieces, newest


def arrow_table(run):
    """The dict from all pieces to dicts whose keys are the pieces to which arrows go from them."""
    table, _, _ = chart_of(run)
    return table


def taken_letters(run, kind):
    """The pairs (sent, taken) of the indices of steps for all letters of this kind that are taken."""
    number = run.program.kinds.index(kind)
    return [(sent, at) for at, (turn, sent, _, _, _, _) in enumerate(run.beats)
            if turn.act == "take" and turn.kind == number]


def reached(table, starts):
    """The dict whose keys are the starts and all to which arrows lead from them, told by a table like the above."""
    found = {start: True for start in starts}
    ahead = list(starts)
    while ahead:
        here = ahead.pop()
        for other in table[here]:
            if other not in found:
                found[other] = True
                ahead.append(other)
    return found


def fall_of(run, failed):
    """What a failure of these processes comes to: the fall line, the ascending list of the indices of the steps that
    are thrown back, and the dict from all processes to their losses.
    """
    names = run.program.processes
    table, _, newest = chart_of(run)
    line = dict(zip(names, run.counts))
    for name, place in reached(table, [newest[names.index(name)] for name in failed]):
        line[name] = min(line[name], place)
    cuts = [line[name] for name in names]
    back = []
    paid = [0] * len(names)
    for at, (turn, _, own, _, _, _) in enumerate(run.beats):
        if own is not None and own >= cuts[turn.process]:
            back.append(at)
            paid[turn.process] += turn.price
    return line, back, dict(zip(names, paid))
