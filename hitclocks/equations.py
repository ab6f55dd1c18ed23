"""Letterings and tables of matrices, and what the bodies of a program cost by them."""

from hitclocks.bodies import bodies_of_heads, is_head_in, placed_parts
from hitclocks.errors import BadLettering, BadNumber, BadTable, TooMany
from hitclocks.folds import folded
from hitclocks.fronts import front_of
from hitclocks.kinds import is_letter, is_number_from
from hitclocks.matrices import is_matrix, join_of_matrices, nothing_of, product_of, unit_of
from hitclocks.memories import MOST_LETTERS, check_memory
from hitclocks.programs import check_letters_among, check_program

MOST_UNKNOWNS = 150
MOST_HEIGHT = 60


def is_lettering(thing):
    """Whether any value is a lettering."""
    if not isinstance(thing, dict) or not 1 <= len(thing) <= MOST_LETTERS:
        return False
    rows = 0
    for letter, matrix in thing.items():
        if not is_letter(letter) or not is_matrix(matrix) or rows and len(matrix) != rows:
            return False
        rows = len(matrix)
    return True


def check_lettered(lettering, program):
    """BadLettering, BadProgram(None), NoLetter with the least letter that the lettering does not have."""
    if not is_lettering(lettering):
        raise BadLettering("not a dict of letters to matrices")
    check_program(program)
    check_letters_among(lettering, program)


def rows_of(lettering):
    """How many rows the matrices of a lettering have."""
    return max([len(matrix) for matrix in lettering.values()])


def check_unknowns(program, rows):
    """TooMany(150) if there are more heads times rows times rows."""
    if len(bodies_of_heads(program.procedures)) * rows * rows > MOST_UNKNOWNS:
        raise TooMany(MOST_UNKNOWNS)


def lettering_of(memory):
    """For each letter the matrix of what its steps cost."""
    check_memory(memory)
    lettering = {}
    for column, letter in enumerate(memory.letters):
        rows = []
        for moves in memory.moves:
            place, a, b = moves[column]
            row = [None] * len(memory)
            row[place] = front_of([(a, b)])
            rows.append(tuple(row))
        lettering[letter] = tuple(rows)
    return lettering


def is_table(lettering, program, thing):
    """Whether any value is a table."""
    check_lettered(lettering, program)
    check_unknowns(program, rows_of(lettering))
    return is_table_of(lettering, program, thing)


def is_table_of(lettering, program, thing):
    """As is_table, without checks of what it is for."""
    bodies = bodies_of_heads(program.procedures)
    if not isinstance(thing, dict) or len(thing) != len(bodies):
        return False
    for head, matrix in thing.items():
        if not is_head_in(head, bodies) or not is_matrix(matrix) or len(matrix) != rows_of(lettering):
            return False
    return True


def empty_table(lettering, program):
    """The table with nothing everywhere."""
    table = {}
    for head in bodies_of_heads(program.procedures):
        table[head] = nothing_of(rows_of(lettering))
    return table


def unfolded(lettering, program, table):
    """The table of what the productions cost by a table."""
    check_lettered(lettering, program)
    if not is_table_of(lettering, program, table):
        raise BadTable("not a dict from just the heads to matrices of as many rows")
    check_unknowns(program, rows_of(lettering))
    return productions(lettering, program, table)


def heights(lettering, program, number):
    """The table with nothing everywhere, so often unfolded."""
    check_lettered(lettering, program)
    if not is_number_from(number, 0, MOST_HEIGHT):
        raise BadNumber("not a number from 0 to 60")
    check_unknowns(program, rows_of(lettering))
    table = empty_table(lettering, program)
    for _ in range(number):
        following = productions(lettering, program, table)
        if following == table:
            break
        table = following
    return table


def productions(lettering, program, table):
    """As unfolded, without checks."""
    unit = unit_of(rows_of(lettering))
    told = {}
    for head, body in bodies_of_heads(program.procedures).items():
        if len(head) == 1:
            told[head] = cost_of(lettering, table, (head[0], ()), body)
        else:
            once = cost_of(lettering, table, (head[0], head[1] + (0,)), body)
            told[head] = join_of_matrices(unit, product_of(once, table[head]))
    return told


def cost_of(lettering, table, place, body):
    """What a body at a place, a name and a path, costs by a table."""
    name, path = place
    return folded(
        (path, body),
        parts_but_of_loops,
        lambda node, parts: cost_by_parts(lettering, table, (name, node[0]), node[1], parts))


def parts_but_of_loops(node):
    """The list of the parts of a pair of a path and the body there, as such pairs; none of a loop."""
    return [] if node[1][0] == "any" else placed_parts(node)


def cost_by_parts(lettering, table, place, body, parts):
    """What a body costs, what its parts cost being known."""
    tag = body[0]
    if tag == "read":
        return lettering[body[1]]
    if tag == "call":
        return table[(body[1],)]
    if tag == "any":
        return table[place]
    many = rows_of(lettering)
    if tag == "either":
        cost = nothing_of(many)
        for part in parts:
            cost = join_of_matrices(cost, part)
        return cost
    cost = unit_of(many)
    if tag == "then":
        for part in parts:
            cost = product_of(cost, part)
    return times_of(body[1], body[2], parts[0]) if tag == "times" else cost


def times_of(low, high, matrix):
    """The join of the powers of a matrix from low to high."""
    power = unit_of(len(matrix))
    cost = power if low == 0 else nothing_of(len(matrix))
    for number in range(1, high + 1):
        power = product_of(power, matrix)
        if number >= low:
            cost = join_of_matrices(cost, power)
    return cost
