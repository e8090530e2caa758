"""The families of boxes and tables, snakes and the sorting of tables by them."""

from math import comb, factorial

from keptsorted.checks import MOST_PLACES, check_number
from keptsorted.errors import InvalidNumber
from keptsorted.marks import after_family

MOST_SIDES = 4
MOST_PLACES_OF_ROUNDS = 12


def axes(lengths):
    """The families of a box with these side lengths, in the order of the sides."""
    check_lengths(lengths)
    return [chains_along(lengths, side) for side in range(len(lengths))]


def snakes(rows, columns):
    """The family of the rows of a table, the first one forward, the second one backwards, and so on."""
    check_table(rows, columns, MOST_PLACES)
    lines = axes([rows, columns])[1]
    return [line[::-1] if at % 2 == 1 else line for at, line in enumerate(lines)]


def snake(rows, columns):
    """The chain that goes through the rows of a table in the directions of the snakes."""
    return [place for line in snakes(rows, columns) for place in line]


def shear(rows, columns):
    """The row of families that sorts every filling of a table by the snake."""
    check_table(rows, columns, MOST_PLACES)
    row = []
    for _ in range(enough_rounds(rows)):
        row.append(snakes(rows, columns))
        row.append(axes([rows, columns])[0])
    row.append(snakes(rows, columns))
    return row


def fewest_rounds(rows, columns):
    """The least number of rounds that, with the snakes once more, sort every filling by the snake."""
    check_table(rows, columns, MOST_PLACES_OF_ROUNDS)
    places = rows * columns
    by_snakes = after_family(places, snakes(rows, columns))
    by_columns = after_family(places, axes([rows, columns])[0])
    by_snake = after_family(places, [snake(rows, columns)])
    reached = list(range(1 << places))
    rounds = 0
    while any([by_snake[number] != by_snakes[number] for number in reached]):
        reached = sorted({by_columns[by_snakes[number]] for number in reached})
        rounds += 1
    return rounds


def count_tables(rows, columns):
    """How many fillings by the numbers from 1 on, each once, are sorted by the rows and the columns."""
    check_table(rows, columns, MOST_PLACES)
    product_of_hooks = 1
    for row in range(rows):
        for column in range(columns):
            product_of_hooks = product_of_hooks * (1 + (columns - 1 - column) + (rows - 1 - row))
    return factorial(rows * columns) // product_of_hooks


def count_marked(rows, columns):
    """How many fillings by 0 and 1 are sorted by the rows and the columns."""
    check_table(rows, columns, MOST_PLACES)
    return comb(rows + columns, rows)


def check_lengths(lengths):
    """Raise InvalidNumber unless the thing is a list of the side lengths of a box."""
    if not isinstance(lengths, list) or not 1 <= len(lengths) <= MOST_SIDES:
        raise InvalidNumber(lengths)
    for thing in lengths:
        check_number(thing, MOST_PLACES)
    if product_of(lengths) > MOST_PLACES:
        raise InvalidNumber(lengths)


def check_table(rows, columns, most):
    """Raise InvalidNumber unless there can be a table with so many rows and columns and at most so many places."""
    check_number(rows, most)
    check_number(columns, most // rows)


def product_of(numbers):
    """The product of some numbers, 1 if there are none."""
    result = 1
    for number in numbers:
        result = result * number
    return result


def chains_along(lengths, side):
    """The family of a side: a chain for each row of places that differ in this side alone."""
    places = product_of(lengths)
    step = product_of(lengths[side + 1:])
    firsts = [place for place in range(1, places + 1) if (place - 1) // step % lengths[side] == 0]
    return [[first + step * index for index in range(lengths[side])] for first in firsts]


def enough_rounds(rows):
    """How often a number of rows is halved, rounded up, until it is 1."""
    rounds = 0
    while rows > 1:
        rows = (rows + 1) // 2
        rounds += 1
    return rounds
