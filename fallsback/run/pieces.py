"""Pieces: what the steps of a run are between two places, and the arrows between them."""


def ends_at_place(move, clean):
    """Whether a place is behind the move, made by a process that was clean, or not, ahead of it."""
    return move[4] == "save" or (move[4] == "note" and clean)


def is_clean_behind(move, clean):
    """Whether the process is clean behind the move."""
    return ends_at_place(move, clean) or (clean and move[0] != "take")


def is_clean_after(moves):
    """Whether a process that has made these moves is clean."""
    clean = True
    for move in moves:
        clean = is_clean_behind(move, clean)
    return clean


def places_of(run, process):
    """The ascending list of the places of the process."""
    found = [0]
    clean = True
    for number, move in enumerate(run.moves_of(process)):
        if ends_at_place(move, clean):
            found.append(number + 1)
        clean = is_clean_behind(move, clean)
    return found


def open_piece(run, process):
    """The piece from the last place of the process to the present."""
    return (process, places_of(run, process)[-1])


def piece_list(run):
    """For each step of the run the piece in which it lies, None for a vanishing."""
    pieces = [None] * len(run)
    for process in run.program.processes:
        own = run.own(process)
        begins = places_of(run, process)
        for place, later in zip(begins, begins[1:] + [len(own)]):
            for at in own[place:later]:
                pieces[at] = (process, place)
    return pieces


def taken_letters(run, kind):
    """The pairs (sent, taken) of the indices of steps for all letters of this kind that are taken."""
    return [(sent, gone) for sent, gone in run.letters(kind) if gone is not None and run[gone][0] != kind]


def arrow_table(run):
    """The dict from all pieces to dicts whose keys are the pieces to which arrows go from them."""
    table = {}
    for process in run.program.processes:
        begins = places_of(run, process)
        for place, later in zip(begins, begins[1:]):
            table[process, place] = {(process, later): True}
        table[process, begins[-1]] = {}
    pieces = piece_list(run)
    for kind in run.program.kinds:
        for sent, taken in taken_letters(run, kind):
            table[pieces[sent]][pieces[taken]] = True
            if run.program[kind][3]:
                table[pieces[taken]][pieces[sent]] = True
    return table


def reached(table, starts):
    """The dict whose keys are the starts and all to which arrows lead from them, told by a table like the above."""
    found = {start: True for start in starts}
    ahead = list(starts)
    while ahead:
        here = ahead.pop()
        for other in table[here]:
            if other not in found:
                found[other] = True
                ahead.append(other)
    return found


def back_pieces(run, failed):
    """The dict whose keys are the pieces that are thrown back if these processes fail."""
    return reached(arrow_table(run), [open_piece(run, process) for process in failed])
