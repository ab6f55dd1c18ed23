"""Bodies of procedures: what is one, its load, and what stands in it. They may be of very many levels."""

from hitclocks.folds import folded
from hitclocks.kinds import is_letter, is_name, is_number, is_number_from, is_tagged

MOST_PARTS = 8
MOST_TIMES = 9
MOST_LOAD = 400
NO_WORD = ("either", ())


def is_body(thing, names):
    """Whether any value is a body that calls only these names."""
    waiting = [thing]
    while waiting:
        here = waiting.pop()
        if not is_begun_as_body(here, names):
            return False
        waiting.extend(parts_of(here))
    return True


def is_begun_as_body(thing, names):
    """Whether any value is a body, whatever its parts are."""
    if is_tagged(thing, "none", 1):
        return True
    if is_tagged(thing, "read", 2):
        return is_letter(thing[1])
    if is_tagged(thing, "call", 2):
        return is_name(thing[1]) and thing[1] in names
    if is_tagged(thing, "then", 2) or is_tagged(thing, "either", 2):
        return isinstance(thing[1], tuple) and len(thing[1]) <= MOST_PARTS
    if is_tagged(thing, "times", 4):
        return is_range(thing[1], thing[2])
    return is_tagged(thing, "any", 2)


def is_range(low, high):
    """Whether both are numbers of rounds, the first one not above the second one."""
    return is_number(low) and is_number_from(high, 0, MOST_TIMES) and 0 <= low <= high


def is_heavy(body):
    """Whether the load of a body, or of the body of an "any" in it, is too great."""
    return max(folded(body, parts_of, loads_told)) > MOST_LOAD


def loads_told(here, parts):
    """The load of a body, and the greatest one of the body of an "any" in it."""
    within = max([inner for _, inner in parts]) if parts else 0
    if here[0] == "any":
        return (1, max(within, parts[0][0]))
    rounds = here[2] if here[0] == "times" else 1
    return (1 + rounds * sum([load for load, _ in parts]), within)


def parts_of(body):
    """The tuple of the parts of a body, in the order of their indexes."""
    if body[0] == "then" or body[0] == "either":
        return body[1]
    if body[0] == "times":
        return (body[3],)
    if body[0] == "any":
        return (body[1],)
    return ()


def placed_parts(node):
    """The list of the parts of a pair of a path and the body there, as such pairs."""
    path, body = node
    return [(path + (index,), part) for index, part in enumerate(parts_of(body))]


def with_parts(body, parts):
    """The body with these parts in the place of its own."""
    if body[0] == "then" or body[0] == "either":
        return (body[0], tuple(parts))
    if body[0] == "times":
        return ("times", body[1], body[2], parts[0])
    if body[0] == "any":
        return ("any", parts[0])
    return body


def are_same(one, other):
    """Whether two bodies are equal."""
    waiting = [(one, other)]
    while waiting:
        here, there = waiting.pop()
        parts = parts_of(here)
        others = parts_of(there)
        if said_beside(here) != said_beside(there) or len(parts) != len(others):
            return False
        waiting.extend(list(zip(parts, others)))
    return True


def said_beside(body):
    """What a body says beside its parts."""
    if body[0] == "times":
        return body[:3]
    return body if body[0] in ("read", "call") else body[:1]


def bodies_in(body):
    """The list of pairs of a path and the body there, that of the body itself first."""
    found = []
    waiting = [((), body)]
    while waiting:
        node = waiting.pop()
        found.append(node)
        waiting.extend(placed_parts(node))
    return found


def body_at(body, path):
    """The body to which a path of any numbers leads; None if there is none."""
    for index in path:
        parts = parts_of(body)
        if not 0 <= index < len(parts):
            return None
        body = parts[index]
    return body


def with_body_at(body, path, new):
    """The body with a new one at a path that leads somewhere."""
    above = []
    for index in path:
        above.append(body)
        body = parts_of(body)[index]
    for outer, index in zip(above[::-1], path[::-1]):
        parts = parts_of(outer)
        new = with_parts(outer, parts[:index] + (new,) + parts[index + 1:])
    return new


def said_in(body, tag):
    """The dict from the letters that a body reads, or the names that it calls, to True."""
    said = {}
    waiting = [body]
    while waiting:
        here = waiting.pop()
        if here[0] == tag:
            said[here[1]] = True
        waiting.extend(parts_of(here))
    return said


def bodies_of_heads(procedures):
    """The dict from the heads of some procedures, ascending, to their bodies."""
    found = {}
    for name, body in procedures.items():
        found[(name,)] = body
        for path, here in bodies_in(body):
            if here[0] == "any":
                found[(name, path)] = here[1]
    ordered = {}
    for head in sorted(found):
        ordered[head] = found[head]
    return ordered


def is_path(thing):
    """Whether any value is a tuple of numbers."""
    if not isinstance(thing, tuple):
        return False
    for index in thing:
        if not is_number(index):
            return False
    return True


def is_head_in(thing, bodies):
    """Whether any value is one of the heads that have these bodies."""
    if not isinstance(thing, tuple) or not 1 <= len(thing) <= 2 or not isinstance(thing[0], str):
        return False
    if len(thing) == 2 and not is_path(thing[1]):
        return False
    return thing in bodies


def turned(body):
    """The body in which the parts of each "then" stand the other way about."""
    return folded(body, parts_of, turned_by_parts)


def turned_by_parts(here, parts):
    """A body with these parts, those of a "then" the other way about."""
    return with_parts(here, parts[::-1] if here[0] == "then" else parts)


def changed(body, leaf):
    """The body in which each read and call is what leaf tells of it."""
    return folded(body, parts_of, lambda here, parts: changed_here(here, parts, leaf))


def changed_here(here, parts, leaf):
    """What leaf tells of a read or a call; any other body with these parts."""
    return leaf(here) if here[0] in ("read", "call") else with_parts(here, parts)


def renamed(body, names):
    """The body in which the procedures that are called are called so."""
    return changed(body, lambda leaf: ("call", names[leaf[1]]) if leaf[0] == "call" else leaf)
