"""A desk: it runs a program, keeps the places that are needed, and holds outputs back until they are settled."""

from fallsback.base.programs import check_failed, check_process, check_program
from fallsback.base.turns import turn_at
from fallsback.base.words import is_integer
from fallsback.errors import InvalidNumber, Needed, NothingToUndo
from fallsback.later.outputs import needed
from fallsback.run.histories import run_left
from fallsback.run.pieces import fall_of
from fallsback.run.runs import Run, pose_of


class Page:
    """What a desk has between two calls. A page never changes.

    `left` is the run, `told` the tuple of the events. For each process, ascending, `stored` has the tuple of its kept
    places and `paid` the sum of its losses. `shown` has the released outputs.
    """

    def __init__(self, left, told, stored, shown, paid):
        self.left = left
        self.told = told
        self.stored = stored
        self.shown = shown
        self.paid = paid


class Held:
    """What a desk has at the end of a block, and ahead of that what it has at the end of the block around it."""

    def __init__(self, pages, at, page, outer):
        self.pages = pages
        self.at = at
        self.page = page
        self.outer = outer


class Desk:
    """A program that runs: steps are done, processes fail, places are thrown away, and outputs are released.

    A desk is its own block: what `with` begins ends with the desk as it was.
    """

    def __init__(self, program):
        check_program(program)
        many = len(program)
        self._program = program
        self._page = Page(Run(program), (), ((0,),) * many, (), (0,) * many)
        self._pages = (self._page,)
        self._at = 0
        self._held = None

    @property
    def program(self):
        """The program that runs."""
        return self._program

    @property
    def run(self):
        """The run that is left."""
        return self._page.left

    @property
    def events(self):
        """The tuple of all steps and failures."""
        return self._page.told

    @property
    def kept(self):
        """The dict from the processes to the ascending tuples of their kept places."""
        return dict(zip(self._program.processes, self._page.stored))

    @property
    def released(self):
        """The ascending tuple of the pairs (process, number) of the released outputs."""
        return self._page.shown

    @property
    def waiting(self):
        """The ascending tuple of the other outputs of the run."""
        return tuple([output for output in _outputs_of(self._page.left) if output not in self._page.shown])

    @property
    def costs(self):
        """The dict from the processes to the sums of their losses."""
        return dict(zip(self._program.processes, self._page.paid))

    def do(self, *steps):
        """Does the steps, all or none, and returns the run."""
        page = self._page
        left = page.left.longer(*steps)
        stored = [list(places) for places in page.stored]
        for turn, _, own, placed, _, _ in left.beats[len(page.left):]:
            if placed:
                stored[turn.process].append(own + 1)
        self._write(Page(left, page.told + steps, _tuples(stored), page.shown, page.paid))
        return left

    def fail(self, *failed):
        """Lets these processes fail at once, and returns the run that is left."""
        check_failed(self._program, failed)
        page = self._page
        line, back, fall = fall_of(page.left, failed)
        left = run_left(page.left, back)
        names = self._program.processes
        stored = [[place for place in places if place <= line[name]] for name, places in zip(names, page.stored)]
        paid = [cost + fall[name] for name, cost in zip(names, page.paid)]
        event = tuple(sorted(failed))
        self._write(Page(left, page.told + (event,), _tuples(stored), page.shown, tuple(paid)))
        return left

    def forget(self, process, place):
        """Throws a kept place away that is not needed."""
        check_process(self._program, process)
        if not is_integer(place) or place not in self.kept[process]:
            raise InvalidNumber(place)
        if place in needed(self._page.left)[process]:
            raise Needed(place)
        kept = self.kept
        kept[process] = tuple([other for other in kept[process] if other != place])
        self._store(tuple(list(kept.values())))

    def sweep(self):
        """Throws all kept places away that are not needed, and returns how many."""
        must = needed(self._page.left)
        stored = [[place for place in places if place in must[name]] for name, places in list(self.kept.items())]
        gone = sum([len(places) for places in self._page.stored]) - sum([len(places) for places in stored])
        self._store(_tuples(stored))
        return gone

    def release(self):
        """Releases all outputs that are settled and were not released yet, and returns them."""
        must = needed(self._page.left)
        # A step can be thrown back just if a place ahead of it is needed.
        found = [(name, number) for name, number in self.waiting if not any([place <= number for place in must[name]])]
        page = self._page
        shown = tuple(sorted([*page.shown, *found]))
        self._write(Page(page.left, page.told, page.stored, shown, page.paid))
        return tuple(found)

    def undo(self, *, many=1):
        """Takes so many calls back, and returns how many can be undone then."""
        _check_many(many, self._at)
        return self._turn_to(self._at - many)

    def redo(self, *, many=1):
        """Does so many calls again that were taken back, and returns how many can be undone then."""
        _check_many(many, len(self._pages) - 1 - self._at)
        return self._turn_to(self._at + many)

    def trial(self):
        """A block at whose end the desk is as it was."""
        return self

    def during(self, call):
        """What the call of the desk returns. The desk is as it was then."""
        with self.trial() as same:
            return call(same)

    def twin(self):
        """An independent copy, also with what can be undone and done again."""
        other = Desk(self._program)
        other._pages, other._at, other._page = self._pages, self._at, self._page
        return other

    def _store(self, stored):
        """Goes on with these kept places."""
        page = self._page
        self._write(Page(page.left, page.told, stored, page.shown, page.paid))

    def _write(self, page):
        """Goes on with a new page. What was undone cannot be done again then."""
        self._pages = self._pages[:self._at + 1] + (page,)
        self._turn_to(self._at + 1)

    def _turn_to(self, at):
        """Goes to the page with this number, and returns it."""
        self._at = at
        self._page = self._pages[at]
        return at

    def __enter__(self):
        self._held = Held(self._pages, self._at, self._page, self._held)
        return self

    def __exit__(self, kind, value, trace):
        self._pages = self._held.pages
        self._at = self._held.at
        self._page = self._held.page
        self._held = self._held.outer

    def __contains__(self, value):
        return turn_at(self._program.turns, pose_of(self._page.left), value) is not None

    def __iter__(self):
        return iter(self._page.told)

    def __len__(self):
        return len(self._page.left)

    def __eq__(self, other):
        return isinstance(other, Desk) and _content_of(self._page) == _content_of(other._page)

    def __str__(self):
        return f"desk behind {len(self)} steps, {len(self.waiting)} outputs waiting"


def _content_of(page):
    """The tuple of all that the page has."""
    return (page.left, page.told, page.stored, page.shown, page.paid)


def _tuples(lists):
    return tuple([tuple(places) for places in lists])


def _outputs_of(run):
    """The ascending list of the pairs (process, number) of the outputs of a run."""
    return sorted([(turn.step[0], own) for turn, _, own, _, _, _ in run.beats
                   if turn.move is not None and turn.move[0] == "output"])


def _check_many(many, most):
    if not is_integer(many) or many < 0:
        raise InvalidNumber(many)
    if many > most:
        raise NothingToUndo(many)
