"""Pairs: what two programs that are alike come to by the same runs."""

from fallsback.base.turns import is_placed, turns_at
from fallsback.rows.spots import first_spot, spot_behind


class Pairs:
    """All pairs of spots by two programs that are alike, behind one run each, the nearest ones first.

    `spots` has the pairs, and `origins` for each the number of a pair ahead of it and the step that leads from there,
    None for the first one. `lacking` tells in the same way a nearest step behind which the other program has a place
    and the one has none; it is None if there is no such step. The search ends early if there are more pairs than
    `most`.
    """

    def __init__(self, one, other, most):
        self.spots = [(first_spot(one), first_spot(other))]
        self.origins = [None]
        self.lacking = None
        known = {self.spots[0]: True}
        here = 0
        while here < len(self.spots) <= most:
            (pose, grid), (other_pose, other_grid) = self.spots[here]
            # Both have the same moves in the same order, and what is possible does not depend on keepings.
            for turn, other_turn in zip(turns_at(one.turns, pose), turns_at(other.turns, other_pose)):
                if self.lacking is None and is_placed(other_pose, other_turn) and not is_placed(pose, turn):
                    self.lacking = (here, turn.step)
                later = (spot_behind(pose, grid, turn), spot_behind(other_pose, other_grid, other_turn))
                if later not in known:
                    known[later] = True
                    self.spots.append(later)
                    self.origins.append((here, turn.step))
            here += 1

    def steps_behind(self, origin):
        """The steps of a shortest run that ends with the step that is told by the pair (number, step) ahead of it."""
        steps = []
        while origin is not None:
            number, step = origin
            steps.append(step)
            origin = self.origins[number]
        return tuple(steps[::-1])
