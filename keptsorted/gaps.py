"""The families of the gaps of a list, the sums of gaps, and sweeps.

The reach of some gaps is a whole number whose binary digit of the worth 2 ** d is 1 just for those differences
d less than the number of places that are sums of the gaps, and for 0, the sum of none of them.
"""

from keptsorted.checks import check_filling, check_gap, check_gaps, check_places

REACH_OF_NO_GAPS = 1


def gap_family(places, gap):
    """The family of a gap: a chain for each first place, of this place and those that are some gaps further on."""
    check_places(places)
    check_gap(places, gap)
    return [list(range(first, places + 1, gap)) for first in range(1, gap + 1)]


def sums(places, gaps):
    """The sums of gaps that are less than the number of places, each once, ascending."""
    check_places(places)
    check_gaps(places, gaps)
    reach = reach_of(places, gaps)
    return [difference for difference in range(1, places) if is_reached(reach, difference)]


def gaps_of(filling):
    """The differences less than the number of places at which a filling is sorted, ascending."""
    check_filling(filling)
    return [difference for difference in range(1, len(filling)) if is_sorted_at(filling, difference)]


def sweep(filling, gap):
    """The filling after one sweep at a gap."""
    check_filling(filling)
    check_gap(len(filling), gap)
    return after_sweep(filling, gap)


def count_sweeps(filling, gap):
    """The least number of sweeps after which a filling is sorted at a gap."""
    check_filling(filling)
    check_gap(len(filling), gap)
    return max([count_greater_ahead(filling, index, gap) for index in range(len(filling))])


def sweeps_needed(places, gaps, gap):
    """The least number of sweeps at a gap that are enough for every filling that is sorted at the gaps of a list."""
    check_places(places)
    check_gaps(places, gaps)
    check_gap(places, gap)
    return count_missed(places, reach_of(places, gaps), gap)


def slowest(places, gaps, gap):
    """A filling that is sorted at the gaps of a list and needs as many sweeps at a gap as any such filling."""
    check_places(places)
    check_gaps(places, gaps)
    check_gap(places, gap)
    reach = reach_of(places, gaps)
    # The last value is 0, and all values ahead of it that may be greater are so: this is slowest at every gap.
    return [0 if is_reached(reach, distance) else 1 for distance in reversed(range(places))]


def reach_of(places, gaps):
    """The reach of some gaps."""
    reach = REACH_OF_NO_GAPS
    for gap in gaps:
        reach = reach_with(places, reach, gap)
    return reach


def reach_with(places, reach, gap):
    """The reach of some gaps, whose reach is given, and one more."""
    # What is reached with the gap can be reached with it once more: so the differences are ascending.
    for difference in range(gap, places):
        if is_reached(reach, difference - gap):
            reach |= 1 << difference
    return reach


def is_reached(reach, difference):
    """Whether a difference is 0 or a sum of the gaps with this reach."""
    return (reach >> difference) & 1 == 1


def count_missed(places, reach, gap):
    """How many multiples of a gap, less than the number of places, are no sums of the gaps with this reach."""
    return len([multiple for multiple in range(gap, places, gap) if not is_reached(reach, multiple)])


def is_sorted_at(filling, difference):
    """Whether no value of a filling is greater than that so many places further on."""
    return all([value <= further for value, further in zip(filling, filling[difference:])])


def after_sweep(filling, gap):
    """What sweep returns, of arguments that are checked already."""
    result = list(filling)
    for index in range(len(result) - gap):
        if result[index] > result[index + gap]:
            result[index], result[index + gap] = result[index + gap], result[index]
    return result


def count_greater_ahead(filling, index, gap):
    """How many values ahead of that at an index, in its chain of the gap's family, are greater."""
    return len([value for value in filling[index % gap:index:gap] if value > filling[index]])
