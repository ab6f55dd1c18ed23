"""Heads: the procedures and the loops of a program."""

from hitclocks.bodies import heads_in
from hitclocks.programs import check_program


def heads(program):
    """The ascending list of the heads of a program."""
    check_program(program)
    return heads_in(program.procedures)
