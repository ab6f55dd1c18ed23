"""Beginnings and ends of the words of a program."""

from hitclocks.bodies import NO_WORD, parts_of
from hitclocks.errors import TooMany
from hitclocks.folds import folded
from hitclocks.memories import all_states, check_memory, check_state
from hitclocks.programs import MOST_PROCEDURES, check_program, check_program_over, first_free, made_program, never
from hitclocks.wholes import whole

NONE = ("none",)


def prefixes(program):
    """The program of the beginnings of the words of a program."""
    return with_parts_of_words(program, ahead_and_part)


def suffixes(program):
    """The program of the ends of the words of a program."""
    return with_parts_of_words(program, part_and_behind)


def ahead_and_part(ahead, part, behind):
    """The body of what is ahead of a part and of a beginning of that part."""
    return ("then", ahead + (part,))


def part_and_behind(ahead, part, behind):
    """The body of an end of a part and of what is behind that part."""
    return ("then", (part,) + behind)


def with_parts_of_words(program, put):
    """The program with a new procedure for the parts of the words of each one; put tells what stands beside a part."""
    check_program(program)
    procedures = program.procedures
    if 2 * len(procedures) > MOST_PROCEDURES:
        raise TooMany(MOST_PROCEDURES)
    names = {}
    taken = program.procedures
    for name in procedures:
        names[name] = first_free("x", taken)
        taken[names[name]] = True
    silent = never(program)
    for name, body in program.procedures.items():
        procedures[names[name]] = body_of_parts(body, names, silent, put)
    return made_program(procedures, names[program.first])


def body_of_parts(body, names, silent, put):
    """The body of the parts of the words of a body."""
    return folded(body, parts_of, lambda here, told: told_of_parts(here, told, names, silent, put))[1]


def told_of_parts(body, told, names, silent, put):
    """Whether a body has a word, and the body of the parts of its words, by what is told so of its parts."""
    if not has_word(body, [part[0] for part in told], silent):
        return (False, NO_WORD)
    bodies = [part[1] for part in told]
    tag = body[0]
    if tag == "none":
        return (True, body)
    if tag == "read":
        return (True, ("either", (NONE, body)))
    if tag == "call":
        return (True, ("call", names[body[1]]))
    if tag == "either":
        return (True, ("either", tuple(bodies)))
    if tag == "then":
        parts = [put(body[1][:at], part, body[1][at + 1:]) for at, part in enumerate(bodies)]
        return (True, ("either", tuple(parts)) if parts else NONE)
    if not told[0][0] or tag == "times" and body[2] == 0:
        return (True, NONE)
    rest = ("times", 0, body[2] - 1, body[3]) if tag == "times" else body
    return (True, ("either", (NONE, put((rest,), bodies[0], (rest,)))))


def has_word(body, have, silent):
    """Whether a body has a word, by whether its parts have one, and by the procedures that have none."""
    tag = body[0]
    if tag == "call":
        return body[1] not in silent
    if tag == "then":
        return False not in have
    if tag == "either":
        return True in have
    return tag != "times" or body[1] == 0 or have[0]


def high_marks(memory, program, start):
    """The front of what all beginnings of words of a program cost from start."""
    check_memory(memory)
    check_program_over(memory, program)
    check_state(memory, start)
    begun = prefixes(program)
    return whole(memory, begun, start, all_states(memory))
