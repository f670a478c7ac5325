"""Pairs: what two programs that are alike come to by the same runs, and where one throws back more than the other."""

from fallsback.base.turns import LETTERS_AT, is_placed, turns_at
from fallsback.rows.spots import bits, first_spot, mask_behind, slot_in, spot_behind


class Pairs:
    """All pairs of spots by two programs that are alike, behind one run each, the nearest ones first.

    `spots` has the pairs, and `origins` for each the number of a pair ahead of it and the step that leads from there,
    None for the first one. `ways` has for each the tuples (turn, other turn, number) of the steps from it. The search
    ends early if there are more pairs than `most`.
    """

    def __init__(self, one, other, most):
        self.spots = [(first_spot(one), first_spot(other))]
        self.origins = [None]
        self.ways = []
        numbers = {self.spots[0]: 0}
        while len(self.ways) < len(self.spots) <= most:
            here = len(self.ways)
            (pose, grid), (other_pose, other_grid) = self.spots[here]
            ways = []
            # Both have the same moves in the same order, and what is possible does not depend on keepings.
            for turn, other_turn in zip(turns_at(one.turns, pose), turns_at(other.turns, other_pose)):
                later = (spot_behind(pose, grid, turn), spot_behind(other_pose, other_grid, other_turn))
                number = numbers.get(later)
                if number is None:
                    number = numbers[later] = len(self.spots)
                    self.spots.append(later)
                    self.origins.append((here, turn.step))
                ways.append((turn, other_turn, number))
            self.ways.append(ways)

    def steps_to(self, number):
        """The steps of a shortest run to the pair with this number."""
        steps = []
        while self.origins[number] is not None:
            number, step = self.origins[number]
            steps.append(step)
        return tuple(steps[::-1])


class Parting:
    """A search for a step that a failure throws back by the one program and not by the other one.

    Behind each step it follows a holder whose piece leads to the piece of the step by the one program, and the mask of
    all such holders by the other one. A node is a tuple (pair, holder, mask); `came` has for each the node ahead of it,
    None behind the step itself, the pair ahead of it, and the step that leads from there.
    """

    def __init__(self, pairs):
        self.pairs = pairs
        self.came = {}
        self.queue = []
        self.masks = {}

    def found(self):
        """The triple (steps, code of a process, index) that tells such a step, or None if there is none."""
        for here, ways in enumerate(self.pairs.ways):
            for turn, other_turn, later in ways:
                if turn.process is not None:
                    self._begin(here, turn, other_turn, later)
        at = 0
        while at < len(self.queue):
            node = self.queue[at]
            _, holder, mask = node
            # Only a process can fail, and a letter is a holder as well.
            if holder < LETTERS_AT and not mask >> holder & 1:
                return self._told(node)
            self._go_on(node)
            at += 1
        return None

    def _begin(self, here, turn, other_turn, later):
        """Begins to follow the step of these turns."""
        (pose, _), (other_pose, _) = self.pairs.spots[here]
        (_, grid), (_, other_grid) = self.pairs.spots[later]
        mask = _leading_to(turn, is_placed(pose, turn), grid)
        other_mask = _leading_to(other_turn, is_placed(other_pose, other_turn), other_grid)
        for holder in bits(mask):
            self._add((later, holder, other_mask), (None, here, turn.step))

    def _go_on(self, node):
        here, holder, mask = node
        (pose, grid), (other_pose, other_grid) = self.pairs.spots[here]
        for turn, other_turn, later in self.pairs.ways[here]:
            other_mask = mask_behind(other_pose, other_grid, other_turn, mask)
            for code in bits(mask_behind(pose, grid, turn, 1 << holder)):
                self._add((later, code, other_mask), (node, here, turn.step))

    def _add(self, node, come):
        pair, holder, mask = node
        known = self.masks.setdefault((pair, holder), [])
        # What parts with more holders by the other program parts with fewer of them as well.
        if not any([smaller & ~mask == 0 for smaller in known]):
            known.append(mask)
            self.came[node] = come
            self.queue.append(node)

    def _told(self, node):
        _, holder, _ = node
        steps = []
        while node is not None:
            node, here, step = self.came[node]
            steps.append(step)
        ahead = self.pairs.steps_to(here)
        return ahead + tuple(steps[::-1]), holder, len(ahead)


def _leading_to(turn, placed, grid):
    """The mask of the holders whose pieces lead to the piece of the step, which is behind the step now."""
    mask = slot_in(grid, turn.process)
    return mask & ~(1 << turn.process) if placed else mask
