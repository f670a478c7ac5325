"""Pieces: what the steps of a run are between two places, and the arrows between them."""


def places_of(run, process):
    """The ascending list of the places of the process."""
    code = run.program.processes.index(process)
    return [0] + [own + 1 for turn, _, own, placed, _, _ in run.beats if placed and turn.process == code]


def open_piece(run, process):
    """The piece from the last place of the process to the present."""
    return (process, places_of(run, process)[-1])


def piece_list(run):
    """For each step of the run the piece in which it lies, None for a vanishing."""
    names = run.program.processes
    newest = [(name, 0) for name in names]
    pieces = []
    for turn, _, own, placed, _, _ in run.beats:
        process = turn.process
        pieces.append(None if process is None else newest[process])
        if placed:
            newest[process] = (names[process], own + 1)
    return pieces


def taken_letters(run, kind):
    """The pairs (sent, taken) of the indices of steps for all letters of this kind that are taken."""
    number = run.program.kinds.index(kind)
    return [(sent, at) for at, (turn, sent, _, _, _, _) in enumerate(run.beats)
            if turn.act == "take" and turn.kind == number]


def arrow_table(run):
    """The dict from all pieces to dicts whose keys are the pieces to which arrows go from them."""
    table = {}
    for process in run.program.processes:
        begins = places_of(run, process)
        for place, later in zip(begins, begins[1:]):
            table[process, place] = {(process, later): True}
        table[process, begins[-1]] = {}
    pieces = piece_list(run)
    for taken, (turn, sent, _, _, _, _) in enumerate(run.beats):
        if turn.act == "take":
            table[pieces[sent]][pieces[taken]] = True
            if turn.sure:
                table[pieces[taken]][pieces[sent]] = True
    return table


def reached(table, starts):
    """The dict whose keys are the starts and all to which arrows lead from them, told by a table like the above."""
    found = {start: True for start in starts}
    ahead = list(starts)
    while ahead:
        here = ahead.pop()
        for other in table[here]:
            if other not in found:
                found[other] = True
                ahead.append(other)
    return found


def back_pieces(run, failed):
    """The dict whose keys are the pieces that are thrown back if these processes fail."""
    return reached(arrow_table(run), [open_piece(run, process) for process in failed])
