"""Matrices of fronts: joined, one behind the other, and any number of times."""

from hitclocks.errors import BadMatrix, BadNumber
from hitclocks.fronts import ZERO, is_front, join_of, star_of, sum_of
from hitclocks.kinds import is_number_from

MOST_ROWS = 120
MOST_POWER = 200


def is_matrix(thing):
    """Whether any value is a matrix."""
    if not isinstance(thing, tuple) or not 1 <= len(thing) <= MOST_ROWS:
        return False
    for row in thing:
        if not isinstance(row, tuple) or len(row) != len(thing):
            return False
        for front in row:
            if not is_front(front):
                return False
    return True


def check_matrix(matrix):
    """BadMatrix unless it is a matrix."""
    if not is_matrix(matrix):
        raise BadMatrix("not a matrix")


def check_matrices(one, other):
    """BadMatrix for each, for other also if it has another number of rows."""
    check_matrix(one)
    check_matrix(other)
    if len(one) != len(other):
        raise BadMatrix("another number of rows")


def unit_matrix(many):
    """Nothing is paid from each state to itself, and no other one is come to."""
    if not is_number_from(many, 1, MOST_ROWS):
        raise BadNumber("not a number from 1 to 120")
    return unit_of(many)


def unit_of(many):
    """As unit_matrix, without checks."""
    return tuple([tuple([ZERO if s == t else None for t in range(many)]) for s in range(many)])


def nothing_of(many):
    """The matrix that tells nothing everywhere."""
    return ((None,) * many,) * many


def matrix_join(one, other):
    """At each place the join of both."""
    check_matrices(one, other)
    return join_of_matrices(one, other)


def join_of_matrices(one, other):
    """As matrix_join, without checks."""
    rows = []
    for row, other_row in zip(one, other):
        rows.append(tuple([join_of(front, more) for front, more in zip(row, other_row)]))
    return tuple(rows)


def matrix_product(one, other):
    """What is paid by the one and then the other, over all states between."""
    check_matrices(one, other)
    return product_of(one, other)


def product_of(one, other):
    """As matrix_product, without checks."""
    told = [told_in(row) for row in other]
    return tuple([product_row(row, told) for row in one])


def told_in(row):
    """The list of the pairs of an index and a front that is not nothing."""
    return [(at, front) for at, front in enumerate(row) if front is not None]


def product_row(row, told):
    """A row of a product, of the other matrix what is told in its rows."""
    sums = [None] * len(row)
    for mid, front in told_in(row):
        for end, more in told[mid]:
            sums[end] = join_of(sums[end], sum_of(front, more))
    return tuple(sums)


def matrix_power(matrix, number):
    """So many of a matrix, one behind the other."""
    check_matrix(matrix)
    if not is_number_from(number, 0, MOST_POWER):
        raise BadNumber("not a number from 0 to 200")
    power = unit_of(len(matrix))
    square = matrix
    while number:
        if number & 1:
            power = product_of(power, square)
        number = number >> 1
        if number:
            square = product_of(square, square)
    return power


def matrix_star(matrix):
    """At each place the greatest that the powers of a matrix tell."""
    check_matrix(matrix)
    rows = [list(row) for row in matrix]
    for mid in range(len(rows)):
        pass_through(rows, mid)
    return join_of_matrices(unit_of(len(rows)), rows)


def pass_through(rows, mid):
    """Has each place tell also what comes through this state, any number of times."""
    star = star_of(rows[mid][mid])
    behind = told_in(rows[mid])
    for row in rows:
        if row[mid] is not None:
            ahead = sum_of(row[mid], star)
            for end, more in behind:
                row[end] = join_of(row[end], sum_of(ahead, more))


def transposed(matrix):
    """The matrix with rows and columns changed."""
    check_matrix(matrix)
    return tuple([tuple([row[t] for row in matrix]) for t in range(len(matrix))])
