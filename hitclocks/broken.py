"""Programs that are broken: words of others come in a number of times, or at one place."""

from hitclocks.bodies import bodies_of_heads, is_path, placed_parts
from hitclocks.breaking import Breaker
from hitclocks.errors import BadNumber, BadPlace, TooMany
from hitclocks.folds import folded
from hitclocks.kinds import is_number_from
from hitclocks.programs import check_program, never

MOST_BREAKS = 3
MOST_HEADS = 64
END = ()


def head_count(program):
    """How many heads a program has."""
    return len(bodies_of_heads(program.procedures))


def check_count(count):
    """BadNumber unless it is a number from 0 to 3."""
    if not is_number_from(count, 0, MOST_BREAKS):
        raise BadNumber("not a number from 0 to 3")


def check_room(many):
    """TooMany(64) if this and one more are too many heads."""
    if many + 1 > MOST_HEADS:
        raise TooMany(MOST_HEADS)


def check_broken(program, intruder, count):
    """TooMany(64) for what broken would make."""
    check_room((count + 1) * head_count(program) + head_count(intruder))


def check_broken_at(program, intruder):
    """TooMany(64) for what broken_at would make."""
    check_room(2 * head_count(program) + head_count(intruder))


def broken(program, intruder, count):
    """The program of the words of a program into which words of the intruder came in so often."""
    check_program(program)
    check_program(intruder)
    check_count(count)
    check_broken(program, intruder, count)
    return broken_so_often(program, intruder, count)


def broken_so_often(program, intruder, count):
    """As broken, without checks."""
    return Breaker(program, intruder, count, lambda place: True).whole_program()


def places(program):
    """The ascending list of the places at which a program can be broken."""
    check_program(program)
    silent = never(program)
    if program.first in silent:
        return []
    told = {}
    for name, body in program.procedures.items():
        told[name] = reads_and_calls(name, body, silent)
    found = [END]
    used = {program.first: True}
    waiting = [program.first]
    while waiting:
        _, reads, calls = told[waiting.pop()]
        found.extend(reads)
        for name in calls:
            if name not in used:
                used[name] = True
                waiting.append(name)
    return sorted(found)


def reads_and_calls(name, body, silent):
    """Whether a body has a word, and the lists of the reads and the calls that its words use."""
    return folded(((), body), placed_parts, lambda node, parts: used_in(name, node[0], node[1], parts, silent))


def used_in(name, path, body, parts, silent):
    """As reads_and_calls, by what is told so of the parts of a body."""
    tag = body[0]
    if tag == "read":
        return (True, [(name, path)], [])
    if tag == "call":
        return (True, [], [body[1]]) if body[1] not in silent else (False, [], [])
    have = [part for part in parts if part[0]]
    if tag == "then" and len(have) < len(parts):
        return (False, [], [])
    if tag == "times" and body[2] == 0:
        return (True, [], [])
    reads = []
    calls = []
    for _, some_reads, some_calls in have:
        reads.extend(some_reads)
        calls.extend(some_calls)
    is_empty = tag in ("none", "then", "any") or tag == "times" and body[1] == 0
    return (is_empty or len(have) > 0, reads, calls)


def check_place(program, place):
    """BadPlace unless it is one of the places of the program."""
    fits = isinstance(place, tuple) and (place == END or len(place) == 2 and is_path(place[1]))
    if not fits or place not in places(program):
        raise BadPlace("not a place of the program")


def broken_at(program, intruder, place):
    """The program of the words of a program into which a word of the intruder came in at a place."""
    check_program(program)
    check_program(intruder)
    check_place(program, place)
    check_broken_at(program, intruder)
    return broken_at_place(program, intruder, place)


def broken_at_place(program, intruder, place):
    """As broken_at, without checks."""
    return Breaker(program, intruder, 1, lambda gap: gap == place).whole_program()
