"""Bodies of procedures: what is one, its load, and what stands in it."""

from hitclocks.kinds import is_letter, is_name, is_number, is_number_from, is_tagged

MOST_PARTS = 8
MOST_TIMES = 9
MOST_LOAD = 400


def load_of(body, names):
    """The load of a body that calls only these names; None if it is none or has too great a load in it."""
    if is_tagged(body, "none", 1):
        return 1
    if is_tagged(body, "read", 2):
        return 1 if is_letter(body[1]) else None
    if is_tagged(body, "call", 2):
        return 1 if is_name(body[1]) and body[1] in names else None
    if is_tagged(body, "then", 2) or is_tagged(body, "either", 2):
        return load_of_parts(body[1], names)
    if is_tagged(body, "times", 4) and is_range(body[1], body[2]):
        load = load_of(body[3], names)
        return None if load is None else 1 + body[2] * load
    if is_tagged(body, "any", 2):
        load = load_of(body[1], names)
        return None if load is None or load > MOST_LOAD else 1
    return None


def load_of_parts(parts, names):
    """The load of a body with these parts; None if they are no row of parts."""
    if not isinstance(parts, tuple) or len(parts) > MOST_PARTS:
        return None
    total = 1
    for part in parts:
        load = load_of(part, names)
        if load is None:
            return None
        total += load
    return total


def is_range(low, high):
    """Whether both are numbers of rounds, the first one not above the second one."""
    return is_number(low) and is_number_from(high, 0, MOST_TIMES) and 0 <= low <= high


def parts_of(body):
    """The tuple of the parts of a body, in the order of their indexes."""
    if body[0] == "then" or body[0] == "either":
        return body[1]
    if body[0] == "times":
        return (body[3],)
    if body[0] == "any":
        return (body[1],)
    return ()


def bodies_in(body):
    """The list of pairs of a path and the body there, that of the body itself first."""
    found = []
    waiting = [((), body)]
    while waiting:
        path, here = waiting.pop()
        found.append((path, here))
        for index, part in enumerate(parts_of(here)):
            waiting.append((path + (index,), part))
    return found


def said_in(body, tag):
    """The dict from the letters that a body reads, or the names that it calls, to True."""
    said = {}
    for _, here in bodies_in(body):
        if here[0] == tag:
            said[here[1]] = True
    return said


def heads_in(procedures):
    """The ascending list of the heads of some procedures."""
    found = []
    for name, body in procedures.items():
        found.append((name,))
        for path, here in bodies_in(body):
            if here[0] == "any":
                found.append((name, path))
    return sorted(found)


def turned(body):
    """The body in which the parts of each "then" stand the other way about."""
    if body[0] == "then":
        return ("then", tuple([turned(part) for part in reversed(body[1])]))
    if body[0] == "either":
        return ("either", tuple([turned(part) for part in body[1]]))
    if body[0] == "times":
        return ("times", body[1], body[2], turned(body[3]))
    if body[0] == "any":
        return ("any", turned(body[1]))
    return body
