"""Families that keep one another: what is in order after all of them, and which fillings are sorted by all."""

from keptsorted.checks import check_places, check_row
from keptsorted.errors import NotKept
from keptsorted.keeps import keeps, whole_chains
from keptsorted.marks import mark_of


def keep_one_another(places, families):
    """Whether each of some families keeps each other one."""
    check_places(places)
    check_row(places, families)
    return first_not_kept(places, families) is None


def sure_together(places, families):
    """The pairs of places of which the first one is never greater after sorting by all families, ascending."""
    check_together(places, families)
    below = places_below(places, families)
    return [
        (one, two)
        for one in range(1, places + 1)
        for two in range(1, places + 1)
        if below[two] & mark_of(places, one)
    ]


def count_orders(places, families):
    """How many fillings by the numbers from 1 on, each once, are sorted by all families."""
    check_together(places, families)
    ways = ways_to_sets(places, places_below(places, families))
    # The set of all places has the greatest number.
    return ways[max(ways)]


def count_marks(places, families):
    """How many fillings by 0 and 1 are sorted by all families."""
    check_together(places, families)
    return len(ways_to_sets(places, places_below(places, families)))


def orders(places, families):
    """A generator of the fillings by the numbers from 1 on, each once, that are sorted by all families."""
    check_together(places, families)
    below = places_below(places, families)
    filling = least_order(places, below, [])
    while filling is not None:
        # The caller may change what it gets, and the next filling is made from this one.
        yield list(filling)
        filling = next_order(places, below, filling)


def check_together(places, families):
    """Check places and families, and raise NotKept unless the families keep one another."""
    check_places(places)
    check_row(places, families)
    fault = first_not_kept(places, families)
    if fault is not None:
        one, two = fault
        raise NotKept(one, two)


def first_not_kept(places, families):
    """The index of the first family that does not keep another one and that of the first one of these, or None."""
    # Any number of empty chains would be checked again for each two families.
    whole = [whole_chains(places, family) for family in families]
    for one, first in enumerate(whole):
        for two, second in enumerate(whole):
            if one != two and not keeps(places, first, second):
                return one, two
    return None


def places_below(places, families):
    """For each place, by its number, the set of those from which one comes to it by steps along the chains."""
    below = [0] * (places + 1)
    for family in families:
        for chain in family:
            for place, following in zip(chain, chain[1:]):
                below[following] |= mark_of(places, place)
    for middle in range(1, places + 1):
        for place in range(1, places + 1):
            if below[place] & mark_of(places, middle):
                below[place] = below[place] | below[middle]
    return below


def ways_to_sets(places, below):
    """The sets that hold with each place all places below it, and in how many orders each can be filled up so."""
    ways = {0: 1}
    layer = {0: 1}
    for _ in range(places):
        layer = sets_with_one_more(places, below, layer)
        ways.update(layer)
    return ways


def sets_with_one_more(places, below, layer):
    """The sets that have one place more than those of a layer, and in how many orders each can be filled up."""
    larger = {}
    for members, ways in layer.items():
        for place in range(1, places + 1):
            mark = mark_of(places, place)
            if not members & mark and (below[place] & members) == below[place]:
                larger[members | mark] = larger.get(members | mark, 0) + ways
    return larger


def least_order(places, below, given):
    """The least filling that begins with the given numbers, which can be filled up."""
    filling = list(given)
    while len(filling) < places:
        filling.append(least_number(places, below, filling, 0))
    return filling


def next_order(places, below, filling):
    """The least filling that is greater than this one, or None."""
    for length in reversed(range(places)):
        given = filling[:length]
        number = least_number(places, below, given, filling[length])
        if number is not None:
            return least_order(places, below, given + [number])
    return None


def least_number(places, below, given, bound):
    """The least number above a bound that the place behind the given numbers can have, or None."""
    for number in possible_numbers(places, below, given):
        if number > bound and can_be_filled_up(places, below, given + [number]):
            return number
    return None


def possible_numbers(places, below, given):
    """The numbers that are left, ascending, without those too small or too great for the place behind the given ones.

    Each place below it needs a lesser one, and each place above it a greater one.
    """
    place = len(given) + 1
    later = list(range(place + 1, places + 1))
    lower = [other for other in later if below[place] & mark_of(places, other)]
    higher = [other for other in later if below[other] & mark_of(places, place)]
    left = [number for number in range(1, places + 1) if number not in given]
    return left[len(lower):len(left) - len(higher)]


def can_be_filled_up(places, below, given):
    """Whether a filling that is sorted by all families begins with the given numbers.

    The numbers that are left go, ascending, to the place that can have one by now and is most in a hurry:
    the one above which the least number is given. If a place does not get its number in time, the place
    that is given a number above it is reached too early.
    """
    holders = {number: place for place, number in enumerate(given, 1)}
    waiting = most_hurried_first(places, below, given)
    filled = 0
    for number in range(1, places + 1):
        candidates = [holders[number]] if number in holders else waiting
        place = first_ready(places, below, filled, candidates)
        if place is None:
            return False
        filled |= mark_of(places, place)
    return True


def most_hurried_first(places, below, given):
    """The places without a number, those first above which the least numbers are given."""
    limits = {}
    for place in range(len(given) + 1, places + 1):
        mark = mark_of(places, place)
        limits[place] = min([number for number, above in zip(given, below[1:]) if above & mark], default=places + 1)
    return sorted(limits, key=lambda place: limits[place])


def first_ready(places, below, filled, candidates):
    """The first of some places that is not filled yet, while all places below it are, or None."""
    for place in candidates:
        if not filled & mark_of(places, place) and (below[place] & filled) == below[place]:
            return place
    return None
