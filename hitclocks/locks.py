"""Caches with locked lines, and lines that things share."""

from hitclocks.caches import LINES, check_cache, letters_of_lines, rows_and_moves
from hitclocks.errors import BadLot, BadNumber, BadPacking, TooMany
from hitclocks.kinds import NAME_STARTS, is_ascending, is_number_from, is_tuple_among
from hitclocks.memories import all_states
from hitclocks.programs import check_letters_among, check_program, letters_of
from hitclocks.sides import respelled_so

MOST_CASES = 12
MOST_THINGS = 6
CAPITALS = "ABCDEFGHIJKLMNOPQRSTUVWXYZ"


def locked(rule, ways, lines, back, lot):
    """The memory of a cache that always holds the lines of a lot, and begins with no other one."""
    check_cache(rule, ways, lines, back)
    if not is_tuple_among(lot, list(LINES[:lines])) or not is_ascending(lot) or len(lot) >= ways:
        raise BadLot("not an ascending tuple of lines, fewer than ways")
    return rows_and_moves(rule, ways, lines, back, lot)[1]


def lock_cases(rule, ways, lines, back, number, program):
    """The list of the lots of up to so many lines, each with the case of the program over the cache locked so."""
    check_cache(rule, ways, lines, back)
    if not is_number_from(number, 0, ways - 1):
        raise BadNumber("not a number from 0 and less than ways")
    check_program(program)
    check_letters_among(letters_of_lines(lines), program)
    lots = lots_up_to(LINES[:lines], number)
    if len(lots) > MOST_CASES:
        raise TooMany(MOST_CASES)
    return [(lot, case_of(rows_and_moves(rule, ways, lines, back, lot)[1], program)) for lot in lots]


def case_of(memory, program):
    """The case of the program from state 0 to all states."""
    return (memory, program, 0, all_states(memory))


def lots_up_to(lines, number):
    """The list of the ascending tuples of up to so many lines, smaller ones first, then ascending."""
    found = [()]
    layer = [()]
    for _ in range(number):
        layer = [lot + (line,) for lot in layer for line in lines if not lot or lot[-1] < line]
        found.extend(layer)
    return found


def packings(things, room):
    """The ascending list of the ways to part things into lots of at most so many."""
    if not is_tuple_among(things, list(NAME_STARTS)) or not is_ascending(things):
        raise BadLot("not an ascending tuple of different small letters")
    if not 1 <= len(things) <= MOST_THINGS:
        raise BadLot("not 1 to 6 things")
    check_room(room)
    return packings_of(things, room)


def check_room(room):
    """BadNumber unless it is a number from 1 to 6."""
    if not is_number_from(room, 1, MOST_THINGS):
        raise BadNumber("not a number from 1 to 6")


def packings_of(things, room):
    """As packings, without checks."""
    found = [()]
    for thing in things:
        further = []
        for packing in found:
            for at, lot in enumerate(packing):
                if len(lot) < room:
                    further.append(packing[:at] + (lot + (thing,),) + packing[at + 1:])
            further.append(packing + ((thing,),))
        found = further
    return sorted(found)


def things_of(program):
    """The things that a program has, as small or capital letters; BadPacking if no packing fits."""
    found = {}
    for letter in letters_of(program):
        if letter not in list(NAME_STARTS + CAPITALS):
            raise BadPacking("not one small or one capital letter")
        found[letter.lower()] = True
    if not 1 <= len(found) <= MOST_THINGS:
        raise BadPacking("not 1 to 6 things")
    return tuple(sorted(found))


def packed(program, packing):
    """The program in which the things of each lot are turned to the line of that lot."""
    check_program(program)
    if packing not in packings_of(things_of(program), MOST_THINGS):
        raise BadPacking("not a packing of what the program has")
    return packed_so(program, packing)


def packed_so(program, packing):
    """As packed, without checks."""
    lines = {}
    for line, lot in zip(LINES, packing):
        for thing in lot:
            lines[thing] = line
            lines[thing.upper()] = line.upper()
    return respelled_so(program, lines)


def packing_cases(rule, ways, back, program, room):
    """The list of the packings with this room, each with the case of the program packed so over a cache."""
    check_cache(rule, ways, 1, back)
    check_program(program)
    things = things_of(program)
    check_room(room)
    ways_to_pack = packings_of(things, room)
    if len(ways_to_pack) > MOST_CASES:
        raise TooMany(MOST_CASES)
    cases = []
    for packing in ways_to_pack:
        memory = rows_and_moves(rule, ways, len(packing), back, ())[1]
        cases.append((packing, case_of(memory, packed_so(program, packing))))
    return cases
