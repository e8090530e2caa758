"""Fillings by 0 and 1 as whole numbers, and what sorting does to all of them.

The value of place 1 is the highest binary digit of the number, that of the last place the lowest one,
so that the numbers are in the order of the fillings as lists. A set of places is told in the same way,
as the number of the filling that has its ones just there.
"""


def mark_of(places, place):
    """The number of the filling in which just this place has 1."""
    return 1 << (places - place)


def filling_of(places, number):
    """The filling by 0 and 1 that a number stands for."""
    return [(number >> (places - place)) & 1 for place in range(1, places + 1)]


def counts_of_ones(places):
    """For each number of a filling how many ones the filling has."""
    counts = [0]
    for _ in range(places):
        counts = counts + [count + 1 for count in counts]
    return counts


def fewest_ones_first(places):
    """The numbers of all fillings: those with fewer ones first, those with equally many as lists are ordered."""
    counts = counts_of_ones(places)
    return sorted(range(1 << places), key=lambda number: counts[number])


def after_family(places, family):
    """For each number of a filling that of the filling sorted by a family."""
    counts = counts_of_ones(places)
    result = list(range(1 << places))
    for chain in family:
        # A family can have any number of empty chains, and each one that is gone through takes its time.
        if len(chain) > 1:
            rests = rests_of(places, chain)
            whole = rests[-1]
            result = [(number & ~whole) | rests[counts[number & whole]] for number in result]
    return result


def rests_of(places, chain):
    """The numbers of the fillings that have ones just at the last places of a chain, from none to all of them."""
    rests = [0]
    for place in chain[::-1]:
        rests.append(rests[-1] | mark_of(places, place))
    return rests


def after_families(places, row):
    """For each number of a filling that of the filling sorted by the families of a row, one after the other."""
    result = list(range(1 << places))
    for family in row:
        after = after_family(places, family)
        result = [after[number] for number in result]
    return result
