"""What several tests share. The references here do without the functions that they test."""

import copy
import itertools
import time

HUGE = 10 ** 60 - 1


class Awkward:
    """A thing of another kind that refuses to be compared, hashed, measured, gone through or shown."""

    def _refuse(self, *told):
        raise RuntimeError("this thing should have been left alone")

    __eq__ = __ne__ = __lt__ = __le__ = __gt__ = __ge__ = _refuse
    __hash__ = __len__ = __iter__ = __bool__ = __index__ = __int__ = __getitem__ = _refuse
    __contains__ = __repr__ = __str__ = _refuse


def things_that_are_no_lists():
    return [None, True, False, 0, 7, 1.0, "1", "", b"1", (), (1,), {}, {1: 1}, {1}, frozenset(), range(3), iter([1]),
            object(), Awkward(), list, len]


def things_that_are_no_whole_numbers():
    return [None, True, False, 1.0, float("nan"), 1j, "1", "", b"1", (), (1,), [], [1], {}, {1: 1}, {1}, frozenset([1]),
            range(3), iter([1]), object(), Awkward(), int, len]


def all_families(places):
    """All families in which each place stands in one chain: the lists of chains in one order each."""
    if places == 0:
        return [[]]
    found = []
    for family in all_families(places - 1):
        found.append(family + [[places]])
        for at, chain in enumerate(family):
            for index in range(len(chain) + 1):
                longer = chain[:index] + [places] + chain[index:]
                found.append(family[:at] + [longer] + family[at + 1:])
    return found


def all_marks(places):
    """All fillings by 0 and 1."""
    return [list(marks) for marks in itertools.product((0, 1), repeat=places)]


def marks_in_order(places):
    """All fillings by 0 and 1, those with fewer ones first, those with equally many as lists are ordered."""
    return sorted(all_marks(places), key=lambda marks: (sum(marks), marks))


def all_orders(places):
    """All fillings by the numbers from 1 on, each once, as lists are ordered."""
    return [list(order) for order in itertools.permutations(range(1, places + 1))]


def all_values(places, kinds):
    """All fillings by so many kinds of values."""
    return [list(values) for values in itertools.product(range(kinds), repeat=places)]


def reference_sorted(filling, family):
    """The filling after each chain was sorted by exchanging neighbours in it until none is amiss."""
    values = dict(enumerate(filling, 1))
    for chain in family:
        for _ in chain:
            for one, two in zip(chain, chain[1:]):
                if values[one] > values[two]:
                    values[one], values[two] = values[two], values[one]
    return [values[place] for place in range(1, len(filling) + 1)]


def reference_after_row(filling, row):
    for family in row:
        filling = reference_sorted(filling, family)
    return filling


def reference_is_sorted(filling, family):
    return all(
        filling[chain[one] - 1] <= filling[chain[two] - 1]
        for chain in family
        for one in range(len(chain))
        for two in range(one, len(chain))
    )


def reference_keeps(first, second, fillings):
    """Whether the first family keeps the second one, by going through the fillings."""
    return all(
        reference_is_sorted(reference_sorted(filling, first), second)
        for filling in fillings
        if reference_is_sorted(filling, second)
    )


def places_reached(places, families):
    """For each place those to which one comes by steps from a place of a chain to the next one in it."""
    reached = {place: set() for place in range(1, places + 1)}
    for family in families:
        for chain in family:
            for one, two in zip(chain, chain[1:]):
                reached[one].add(two)
    for middle, start in itertools.product(list(reached), repeat=2):
        if middle in reached[start]:
            reached[start] |= reached[middle]
    return reached


def some_family(source, places, left_out=0):
    """A family by a random source: chains of unlike lengths, with about so many of a hundred places in none."""
    order = [place for place in range(1, places + 1) if source.randrange(100) >= left_out]
    source.shuffle(order)
    family = []
    while order:
        length = source.randint(0, len(order))
        family.append(order[:length])
        del order[:length]
    return family


def table(rows, columns):
    """The families of the columns and of the rows of a table."""
    lines = [[row * columns + column for column in range(1, columns + 1)] for row in range(rows)]
    return [list(column) for column in zip(*lines)], lines


def gap_chains(places, gap):
    return [list(range(start, places + 1, gap)) for start in range(1, gap + 1)]


def reference_sums(places, gaps):
    """The sums of gaps less than the number of places, by adding gaps to the sums found until nothing is new."""
    found = {gap for gap in gaps if gap < places}
    while True:
        more = {one + gap for one in found for gap in gaps if one + gap < places}
        if more <= found:
            return sorted(found)
        found |= more


def reference_gaps_of(filling):
    places = len(filling)
    return [
        gap for gap in range(1, places)
        if not any(filling[one] > filling[one + gap] for one in range(places - gap))
    ]


def reference_sweep(filling, gap):
    """The filling after each two places a gap apart were looked at, from the first place on."""
    values = dict(enumerate(filling, 1))
    for place in range(1, len(filling) - gap + 1):
        values[place], values[place + gap] = sorted([values[place], values[place + gap]])
    return list(values.values())


def reference_count_sweeps(filling, gap):
    """How many sweeps are made until one changes nothing."""
    made = 0
    while reference_sweep(filling, gap) != filling:
        filling = reference_sweep(filling, gap)
        made += 1
    return made


def turned_about(family):
    return [chain[::-1] for chain in family]


def bricks(places):
    """The families of the neighbours from the first place on, and from the second one on."""
    return [[[place, place + 1] for place in range(start, places, 2)] for start in (1, 2)]


def lists_in(thing):
    """The ids of all list objects in a thing."""
    if not isinstance(thing, (list, tuple)):
        return []
    found = [id(thing)] if isinstance(thing, list) else []
    for part in thing:
        found.extend(lists_in(part))
    return found


def assert_leaves_alone(case, function, *arguments):
    """Check that a call changes no argument and that its lists are new ones; gives its answer."""
    before = copy.deepcopy(arguments)
    answer = function(*arguments)
    case.assertEqual(arguments, before)
    fresh = lists_in(answer)
    case.assertEqual(len(fresh), len(set(fresh)))
    case.assertFalse(set(fresh) & set(lists_in(arguments)))
    again = function(*arguments)
    case.assertEqual(again, answer)
    case.assertFalse(set(lists_in(again)) & set(fresh))
    return answer


def assert_in_time(case, function, *arguments):
    """Check that a call ends within ten seconds; gives its answer."""
    start = time.perf_counter()
    answer = function(*arguments)
    case.assertLess(time.perf_counter() - start, 10)
    return answer


def caught(case, error, function, *arguments, **named):
    """The error that a call raises, which is of just this class."""
    with case.assertRaises(error) as context:
        function(*arguments, **named)
    case.assertIs(type(context.exception), error)
    return context.exception
