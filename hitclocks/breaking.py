"""Programs into whose words others come in, written as programs.

The levels of a body are the list of a body for each number of break-ins ahead of its letters, None where there is
no such word.
"""

from hitclocks.bodies import MOST_PARTS, NO_WORD, bodies_of_heads, placed_parts, renamed, said_in
from hitclocks.folds import folded
from hitclocks.programs import called_from, made_program

NONE = ("none",)
FIRST = "first"


class Breaker:
    """Writes out the procedures of a program that is broken so often, ahead of some reads and perhaps at the end."""

    def __init__(self, program, intruder, most, is_gap):
        self.program = program
        self.intruder = intruder
        self.most = most
        # Whether what comes in may do so ahead of the read at a place, () being the end.
        self.is_gap = is_gap
        self.numbers = {}
        for head in bodies_of_heads(program.procedures):
            self.numbers[head] = len(self.numbers)
        self.names = new_names("i", intruder)
        self.made = {}

    def whole_program(self):
        """The broken program."""
        for name, body in self.intruder.procedures.items():
            self.made[self.names[name]] = renamed(body, self.names)
        for name, body in self.program.procedures.items():
            levels = self.levels_of(name, body)
            for many, level in enumerate(levels):
                self.made[self.name_of((name,), many)] = NO_WORD if level is None else level
        is_gap = self.is_gap
        least = 0 if is_gap(()) else self.most
        ways = []
        for many in range(least, self.most + 1):
            ways.append(self.with_calls(self.most - many, self.call_of((self.program.first,), many), False))
        self.made[FIRST] = either_of(ways)
        return program_below(self.made, FIRST)

    def name_of(self, head, many):
        """The name of the procedure that is a head with so many break-ins."""
        return "p" + str(self.numbers[head]) + "." + str(many)

    def call_of(self, head, many):
        """The call of that procedure."""
        return ("call", self.name_of(head, many))

    def with_calls(self, many, body, is_ahead):
        """A body with so many calls of the intruder ahead of it or behind it."""
        calls = (("call", self.names[self.intruder.first]),) * many
        if many == 0:
            return body
        return ("then", calls + (body,) if is_ahead else (body,) + calls)

    def levels_of(self, name, body):
        """The levels of the body of a procedure, those of its loops being put down as procedures."""
        return folded(
            ((), body),
            placed_parts,
            lambda node, parts: self.levels_by_parts((name, node[0]), node[1], parts))

    def levels_by_parts(self, place, body, parts):
        """The levels of a body at a place, those of its parts being known."""
        tag = body[0]
        if tag == "read":
            is_gap = self.is_gap
            if is_gap(place):
                return [self.with_calls(many, body, True) for many in range(self.most + 1)]
            return [body] + [None] * self.most
        if tag == "call":
            return [self.call_of((body[1],), many) for many in range(self.most + 1)]
        if tag == "any":
            return self.levels_of_loop(place, parts[0])
        if tag == "either":
            return [either_of([part[many] for part in parts]) for many in range(self.most + 1)]
        if tag == "times":
            return levels_of_times(body[1], body[2], parts[0])
        return levels_in_order(parts) if parts else [NONE] + [None] * self.most

    def levels_of_loop(self, head, part):
        """The levels of a loop, whose body has these levels."""
        for many in range(self.most + 1):
            ways = []
            for first in range(1, many + 1):
                if part[first] is not None:
                    ways.append(("then", (self.call_of(head, 0), part[first], self.call_of(head, many - first))))
            way = either_of(ways)
            if many == 0:
                way = ("any", NO_WORD if part[0] is None else part[0])
            self.made[self.name_of(head, many)] = NO_WORD if way is None else way
        return [self.call_of(head, many) for many in range(self.most + 1)]


def new_names(sign, program):
    """The dict from the procedures of a program to names of this sign and a number."""
    names = {}
    for name in program.procedures:
        names[name] = sign + str(len(names))
    return names


def program_below(procedures, first):
    """The program of these procedures, without those that are never called."""
    calls = {}
    for name, body in procedures.items():
        calls[name] = list(said_in(body, "call"))
    called = called_from(calls, first)
    called[first] = True
    return made_program({name: procedures[name] for name in called}, first)


def either_of(ways):
    """The body of these ways but those that are None; None if there are no others."""
    ways = [way for way in ways if way is not None]
    if len(ways) > 1:
        return ("either", tuple(ways))
    return ways[0] if ways else None


def then_of(one, other):
    """The body of one and then the other."""
    parts = parts_in_order(one) + parts_in_order(other)
    return ("then", parts if len(parts) <= MOST_PARTS else (one, other))


def parts_in_order(body):
    """The parts of a "then"; any other body alone."""
    return body[1] if body[0] == "then" else (body,)


def levels_behind(one, other):
    """The levels of one and then the other."""
    levels = []
    for many in range(len(one)):
        ways = []
        for first in range(many + 1):
            if one[first] is not None and other[many - first] is not None:
                ways.append(then_of(one[first], other[many - first]))
        levels.append(either_of(ways))
    return levels


def levels_in_order(parts):
    """The levels of one or more parts, one behind the other."""
    # By halves: a part is written out less often than if all break-ins were told from the first part on.
    while len(parts) > 1:
        halves = [levels_behind(parts[at], parts[at + 1]) for at in range(0, len(parts) - 1, 2)]
        parts = halves + parts[len(halves) * 2:]
    return parts[0]


def levels_of_times(low, high, part):
    """The levels of a part that comes from low to high times."""
    if high == 0:
        return [NONE] + [None] * (len(part) - 1)
    levels = part
    if high > 1:
        half = high // 2
        first = min(low, half)
        levels = levels_behind(levels_of_times(first, half, part), levels_of_times(low - first, high - half, part))
    none = NONE if low == 0 else None
    return [none if part[0] is None else ("times", low, high, part[0])] + levels[1:]
