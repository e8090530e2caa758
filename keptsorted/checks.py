"""The checks of the arguments that several modules take."""

from keptsorted.errors import InvalidFamily, InvalidFilling, InvalidNumber, InvalidRow

MOST_PLACES = 40


def is_whole(thing):
    """Whether a thing is a whole number; True and False are none."""
    return isinstance(thing, int) and not isinstance(thing, bool)


def is_whole_within(thing, least, most):
    """Whether a thing is a whole number from the least to the most one."""
    return is_whole(thing) and least <= thing <= most


def check_number(number, most):
    """Raise InvalidNumber unless the thing is a whole number from 1 to the most one."""
    if not is_whole_within(number, 1, most):
        raise InvalidNumber(number)


def check_places(places):
    """Raise InvalidNumber unless there can be so many places."""
    check_number(places, MOST_PLACES)


def check_gap(places, gap):
    """Raise InvalidNumber unless the thing is a gap of so many places."""
    check_number(gap, places)


def check_gaps(places, gaps):
    """Raise InvalidNumber unless the thing is a list of gaps of so many places."""
    if not isinstance(gaps, list):
        raise InvalidNumber(gaps)
    for gap in gaps:
        check_gap(places, gap)


def check_filling(filling):
    """Raise InvalidFilling unless the thing is a filling."""
    if not isinstance(filling, list) or not 1 <= len(filling) <= MOST_PLACES:
        raise InvalidFilling(None)
    for index, thing in enumerate(filling):
        if not is_whole(thing):
            raise InvalidFilling(index)


def check_family(places, family):
    """Raise InvalidFamily unless the thing is a family of so many places."""
    fault = fault_of_family(places, family)
    if fault is not None:
        chain, index = fault
        raise InvalidFamily(chain, index)


def check_row(places, row):
    """Raise InvalidRow unless the thing is a row of families of so many places."""
    if not isinstance(row, list):
        raise InvalidRow(None, None, None)
    for at, family in enumerate(row):
        fault = fault_of_family(places, family)
        if fault is not None:
            chain, index = fault
            raise InvalidRow(at, chain, index)


def fault_of_family(places, family):
    """What InvalidFamily tells of a thing, its chain and its index; None if it is a family."""
    if not isinstance(family, list):
        return None, None
    met = set()
    for at, chain in enumerate(family):
        if not isinstance(chain, list):
            return at, None
        for index, thing in enumerate(chain):
            # The kind of a thing comes first: not every thing can be looked up in a set.
            if not is_whole_within(thing, 1, places) or thing in met:
                return at, index
            met.add(thing)
    return None
