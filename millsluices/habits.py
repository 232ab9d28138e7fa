"""Habits: which turns may follow one another."""

from millsluices.errors import BadMove
from millsluices.helpers import distinct


class Habit:
    """Moves between states, each by the turn of a sluice."""

    def __init__(self, moves):
        rows = [tuple(move) for move in moves]
        self.table = {}
        for index, (state, sluice, after) in enumerate(rows):
            if self.table.setdefault((state, sluice), after) != after:
                raise BadMove(index)
        self.moves = tuple(sorted(set(rows)))

    def __eq__(self, other):
        return isinstance(other, Habit) and self.moves == other.moves

    def after(self, state, sluice):
        """Return the state after the turn of the sluice, or None if it may not be turned."""
        return self.table.get((state, sluice))

    def state_after(self, turns):
        """Return the state after the turns, or None if the habit does not let them."""
        state = 0
        for sluice in turns:
            state = self.after(state, sluice)
            if state is None:
                return None
        return state

    def leaving(self, state):
        """Return the pairs of sluices that may be turned in the state and the states after it, ascending."""
        return [(sluice, after) for origin, sluice, after in self.moves if origin == state]


def habit_states(habit):
    """Return state 0 and all states that occur in the moves of the habit, ascending."""
    return distinct([0, *[move[0] for move in habit.moves], *[move[2] for move in habit.moves]])
