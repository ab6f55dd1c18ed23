"""Heads: the procedures and the loops of a program."""

from hitclocks.bodies import bodies_of_heads
from hitclocks.programs import check_program


def heads(program):
    """The ascending list of the heads of a program."""
    check_program(program)
    return list(bodies_of_heads(program.procedures))
