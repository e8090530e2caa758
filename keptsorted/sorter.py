"""A filling that is sorted by deeds, which can be taken back."""

from keptsorted.checks import check_family, check_filling, check_gap, check_number, is_whole
from keptsorted.errors import InvalidFilling, NothingToUndo
from keptsorted.families import ascends_along, sorted_along
from keptsorted.gaps import after_sweep, gaps_of


class Sorter:
    """A filling that is sorted by deeds."""

    def __init__(self, filling):
        check_filling(filling)
        # Each deed makes a new list of values: whoever goes through the old one is not disturbed.
        self._values = list(filling)
        self._earlier = []

    @property
    def filling(self):
        """The list of the values now."""
        return list(self._values)

    def __len__(self):
        """The number of deeds that are not taken back."""
        return len(self._earlier)

    def __iter__(self):
        """Go through the values as they are when this begins."""
        return iter(self._values)

    def __getitem__(self, at):
        """The value of a place."""
        check_number(at, len(self._values))
        return self._values[at - 1]

    def __setitem__(self, at, worth):
        """Change the value of a place, a deed."""
        check_number(at, len(self._values))
        if not is_whole(worth):
            raise InvalidFilling(at - 1)
        values = list(self._values)
        values[at - 1] = worth
        self._change_to(values)

    def apply(self, family):
        """Sort by a family, a deed; gives how many places have another value then."""
        check_family(len(self._values), family)
        return self._change_to(sorted_along(self._values, family))

    def sweep(self, gap):
        """Make one sweep at a gap, a deed; gives how many places have another value then."""
        check_gap(len(self._values), gap)
        return self._change_to(after_sweep(self._values, gap))

    def is_sorted(self, family):
        """Whether the filling is sorted by a family."""
        check_family(len(self._values), family)
        return ascends_along(self._values, family)

    def gaps(self):
        """The differences less than the number of places at which the filling is sorted, ascending."""
        return gaps_of(self._values)

    def run(self, row):
        """A generator that sorts by the families of a list, a deed each, and gives the filling after each."""
        at = 0
        # The list may change between the steps, so it is looked at anew for each of them.
        while at < len(row):
            self.apply(row[at])
            yield list(self._values)
            at += 1

    def undo(self):
        """Take back the last deed that is not taken back yet."""
        if not self._earlier:
            raise NothingToUndo()
        self._values = self._earlier.pop()

    def _change_to(self, values):
        """Count a deed that makes these values; gives how many places have another one then."""
        earlier = self._values
        self._earlier.append(earlier)
        self._values = values
        return len([index for index, value in enumerate(values) if value != earlier[index]])
