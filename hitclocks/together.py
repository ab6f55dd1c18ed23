"""Programs put together: letters that stand for programs, calls and loops written out."""

from hitclocks.bodies import body_at, changed, is_path, renamed, with_body_at
from hitclocks.errors import BadLetter, BadName, BadPath, TooMany
from hitclocks.kinds import is_letter
from hitclocks.programs import MOST_PROCEDURES, Program, check_program, first_free, made_program


def replaced(program, letter, other):
    """The program in which each read of a letter is a call of another program."""
    check_program(program)
    if not is_letter(letter):
        raise BadLetter("not a letter")
    check_program(other)
    procedures = program.procedures
    added = other.procedures
    if len(procedures) + len(added) > MOST_PROCEDURES:
        raise TooMany(MOST_PROCEDURES)
    names = {}
    taken = program.procedures
    for name in added:
        names[name] = first_free("q", taken)
        taken[names[name]] = True
    call = ("call", names[other.first])
    told = {}
    for name, body in procedures.items():
        told[name] = changed(body, lambda leaf: call if leaf == ("read", letter) else leaf)
    for name, body in added.items():
        told[names[name]] = renamed(body, names)
    return made_program(told, program.first)


def inlined(program, name, path):
    """The program in which a call is replaced by the body of the procedure that is called."""
    call = checked_body(program, name, path, "call")
    return with_new_body(program, name, path, program.procedures[call[1]])


def unrolled(program, name, path):
    """The program in which a loop is written as nothing, or once and then the loop."""
    loop = checked_body(program, name, path, "any")
    return with_new_body(program, name, path, ("either", (("none",), ("then", (loop[1], loop)))))


def checked_body(program, name, path, tag):
    """The body with this tag to which a path leads; BadProgram(None), BadName, BadPath."""
    check_program(program)
    if not isinstance(name, str) or name not in program.procedures:
        raise BadName("not a procedure of the program")
    body = body_at(program.procedures[name], path) if is_path(path) else None
    if body is None or body[0] != tag:
        raise BadPath("the path leads to no such body")
    return body


def with_new_body(program, name, path, body):
    """The program with another body at a path; the errors of Program."""
    procedures = program.procedures
    procedures[name] = with_body_at(procedures[name], path, body)
    return Program(procedures, program.first)
