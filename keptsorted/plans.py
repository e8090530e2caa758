"""Plans of sweeps, what they cost, and the cheapest plans that sort every filling."""

from keptsorted.checks import check_filling, check_gaps, check_number, check_places
from keptsorted.gaps import REACH_OF_NO_GAPS, after_sweep, count_missed, reach_with

MOST_PLACES_OF_CHEAPEST = 12


def sweeps_of(places, plan):
    """The numbers of sweeps of the gaps of a plan: each the least that is enough after the gaps before it."""
    check_places(places)
    check_gaps(places, plan)
    reach = REACH_OF_NO_GAPS
    numbers = []
    for gap in plan:
        numbers.append(count_missed(places, reach, gap))
        reach = reach_with(places, reach, gap)
    return numbers


def cost_of(places, plan):
    """The number of comparisons of a plan."""
    return sum([number * (places - gap) for number, gap in zip(sweeps_of(places, plan), plan)])


def sorts_all(places, plan):
    """Whether a plan sorts every filling, so that no value is greater than the next one."""
    check_places(places)
    check_gaps(places, plan)
    return places == 1 or 1 in plan


def after_plan(filling, plan):
    """The filling after all sweeps of a plan."""
    check_filling(filling)
    numbers = sweeps_of(len(filling), plan)
    result = list(filling)
    for number, gap in zip(numbers, plan):
        for _ in range(number):
            result = after_sweep(result, gap)
    return result


def least_cost(places, gaps):
    """The least cost of a plan that sorts every filling by gaps of a list alone, or None."""
    best = best_plan(places, gaps)
    return None if best is None else best[0]


def cheapest(places, gaps):
    """A plan that sorts every filling by gaps of a list alone at the least cost, or None."""
    best = best_plan(places, gaps)
    return None if best is None else best[1]


def best_plan(places, gaps):
    """The least cost of a plan that sorts every filling by gaps of a list alone, and such a plan, or None.

    What a gap costs depends on the reach of those before it alone. So the best plan is kept for each reach.
    """
    check_number(places, MOST_PLACES_OF_CHEAPEST)
    check_gaps(places, gaps)
    choices = sorted(set(gaps))
    whole = (1 << places) - 1
    best = {REACH_OF_NO_GAPS: (0, [])}
    # A gap that is of use makes the reach a greater number: when its turn comes, its best plan is known.
    for reach in range(whole):
        if reach in best:
            improve(places, best, reach, choices)
    return best.get(whole)


def improve(places, best, reach, choices):
    """Keep the plans with one gap more than the best one of a reach, where they are better than those known."""
    cost, plan = best[reach]
    for gap in choices:
        longer = reach_with(places, reach, gap)
        total = cost + count_missed(places, reach, gap) * (places - gap)
        if longer not in best or total < best[longer][0]:
            best[longer] = (total, plan + [gap])
