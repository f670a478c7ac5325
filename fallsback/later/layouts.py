"""Layouts: all that can come behind a run, as far as it tells which places can be thrown back to.

A layout is a scene without its tags: a tuple (pose, grid, levels) with pairs (state, mask) as levels.
"""

from fallsback.base.turns import turns_at
from fallsback.later.scenes import scene_behind, scene_left


class Outlook:
    """The layouts behind a run, its own one first, and what can come next at each of them.

    `layouts` has the layouts, and `ways` for each the list of triples (event, number, olds) of what can come next: the
    number of the layout behind it, and for each process the tuple of the numbers that its levels had ahead of it, None
    for a new one. The search ends early if there are more layouts than `most`.
    """

    def __init__(self, program, scene, most):
        self.layouts = [layout_of(scene)]
        self.ways = []
        numbers = {self.layouts[0]: 0}
        while len(self.ways) < len(self.layouts) <= most:
            here = self.layouts[len(self.ways)]
            ways = []
            for event, later in _scenes_behind(program, _tagged(here)):
                layout = layout_of(later)
                if layout not in numbers:
                    numbers[layout] = len(self.layouts)
                    self.layouts.append(layout)
                olds = tuple([tuple([tag for tag, _, _ in rows]) for rows in later[2]])
                ways.append((event, numbers[layout], olds))
            self.ways.append(ways)


def recalls_of(nexts, layout):
    """For each process the list of the events that recall the places of its levels in the layout, which is the first
    one. The events are a tuple, whose last one is a failure of one process, or None if the place is not needed.
    """
    return [[_events_from(nexts, (0, process, number)) for number in range(len(rows))]
            for process, rows in enumerate(layout[2])]


def needed_levels(nexts, layouts):
    """The dict from the layouts to tuples that have for each process a tuple: which places of its levels are needed."""
    return {layout: tuple([tuple([(here, process, number) in nexts for number in range(len(rows))])
                           for process, rows in enumerate(layout[2])]) for here, layout in enumerate(layouts)}


def layout_of(scene):
    """The layout of a run with this scene."""
    pose, grid, levels = scene
    return pose, grid, tuple([tuple([(state, mask) for _, state, mask in rows]) for rows in levels])


def _tagged(layout):
    """The scene with this layout, its tags the numbers of the levels."""
    pose, grid, levels = layout
    return pose, grid, tuple([tuple([(number, state, mask) for number, (state, mask) in enumerate(rows)])
                              for rows in levels])


def _scenes_behind(program, scene):
    """The list of the pairs (event, scene behind it) of what can come next."""
    steps = [(turn.step, scene_behind(scene, turn, None)) for turn in turns_at(program.turns, scene[0])]
    return steps + [((name,), scene_left(scene, code)) for code, name in enumerate(program.processes)]


def nexts_to_failures(program, outlook):
    """For each (layout, process, level) whose place is needed the pair of the next event and what it comes to."""
    backward = {}
    for here, ways in enumerate(outlook.ways):
        for event, later, olds in ways:
            for process, numbers in enumerate(olds):
                for number, old in enumerate(numbers):
                    if old is not None:
                        backward.setdefault((later, process, number), []).append((event, (here, process, old)))
    nexts = {}
    for here, (_, _, levels) in enumerate(outlook.layouts):
        for process, rows in enumerate(levels):
            for number in range(len(rows)):
                failing = _failing_at(program, rows, number)
                if failing is not None:
                    nexts[here, process, number] = ((failing,), None)
    queue = list(nexts)
    at = 0
    while at < len(queue):
        node = queue[at]
        for event, other in backward.get(node, ()):
            if other not in nexts:
                nexts[other] = (event, node)
                queue.append(other)
        at += 1
    return nexts


def _failing_at(program, rows, number):
    """A process whose row begins at this one of the levels, or None if there is none."""
    earlier = rows[number - 1][1] if number else 0
    for code, name in enumerate(program.processes):
        if rows[number][1] & ~earlier & 1 << code:
            return name
    return None


def _events_from(nexts, node):
    """The events that lead from here to a failure, or None if there are none."""
    if node not in nexts:
        return None
    events = []
    while node is not None:
        event, node = nexts[node]
        events.append(event)
    return tuple(events)
