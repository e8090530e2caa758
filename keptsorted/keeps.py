"""Whether sorting by one family keeps what another one sorted."""

from keptsorted.checks import check_family, check_places


def keeps(places, first, second):
    """Whether the first family keeps the second one."""
    return breaking(places, first, second) is None


def breaking(places, first, second):
    """A filling by 0 and 1 that shows that the first family does not keep the second one, or None."""
    check_places(places)
    check_family(places, first)
    check_family(places, second)
    seats = seats_in(whole_chains(places, first))
    kept = whole_chains(places, second)
    for chain in kept:
        for place, following in zip(chain, chain[1:]):
            ones = ones_that_part(place, following, seats, kept)
            if ones is not None:
                return [1 if spot in ones else 0 for spot in range(1, places + 1)]
    return None


def whole_chains(places, family):
    """The chains of a family that are not empty, and one for each place that stands in none."""
    chains = []
    met = set()
    for chain in family:
        # There can be any number of empty chains, and they would be gone through again and again.
        if chain:
            chains.append(chain)
        for place in chain:
            met.add(place)
    for place in range(1, places + 1):
        if place not in met:
            chains.append([place])
    return chains


def seats_in(chains):
    """For each place the chain in which it stands, and its index there."""
    seats = {}
    for chain in chains:
        for index, place in enumerate(chain):
            seats[place] = (chain, index)
    return seats


def ones_that_part(place, following, seats, kept):
    """Places of rests of the kept chains that, as the places of the ones, leave 1 before 0, or None.

    That is: after sorting by the chains of the seats the place has 1, and the following one has 0.
    """
    rich, index = seats[place]
    poor, following_index = seats[following]
    # Sorting puts the ones at the end of a chain: so many there reach the place, and so many
    # stay behind the following one.
    needed = len(rich) - index
    allowed = len(poor) - 1 - following_index
    best = {0: (0, [])}
    for chain in kept:
        best = best_with(best, rests_of(chain, rich, poor), allowed)
    for most, ones in best.values():
        if most >= needed:
            return ones
    return None


def rests_of(chain, rich, poor):
    """Each rest of a chain, with how many of its places lie in the rich and in the poor chain."""
    in_rich = 0
    in_poor = 0
    rests = [(0, 0, [])]
    for index in reversed(range(len(chain))):
        if chain[index] in rich:
            in_rich += 1
        if chain[index] in poor:
            in_poor += 1
        rests.append((in_rich, in_poor, chain[index:]))
    return rests


def best_with(best, rests, allowed):
    """The best choices of ones, each joined by one more rest, with no more ones in the poor chain than allowed.

    The best ones are told for each number of ones in the poor chain: how many lie in the rich
    chain, as many as possible, and their places. Of two choices with the same number in the poor
    chain, whatever is added later, the one with more in the rich chain does at least as well.
    """
    found = {}
    for few, (many, ones) in best.items():
        for in_rich, in_poor, rest in rests:
            total = few + in_poor
            if total <= allowed and (total not in found or found[total][0] < many + in_rich):
                found[total] = (many + in_rich, ones + rest)
    return found
