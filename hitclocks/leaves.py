"""What an entry of a tale reads and names, from left to right."""


def leaves_of(bodies, entry):
    """The list of the letters that an entry reads and the numbers of the entries that it names.

    bodies has the body of each head of the program.
    """
    head, _, play = entry
    found = []
    waiting = [(bodies[head], play)]
    if play[0] == "end":
        waiting = []
    elif play[0] == "more":
        waiting = [(None, play[2]), (bodies[head], play[1])]
    while waiting:
        body, here = waiting.pop()
        if body is None:
            found.append(here)
        elif body[0] == "read":
            found.append(body[1])
        elif body[0] == "any" or body[0] == "call":
            found.append(here[1])
        elif body[0] == "either":
            waiting.append((body[1][here[1]], here[2]))
        elif body[0] == "then":
            waiting.extend(list(zip(body[1], here[1]))[::-1])
        elif body[0] == "times":
            waiting.extend([(body[3], part) for part in here[1]][::-1])
    return found


def named_in(leaves):
    """The list of the numbers of entries among what an entry reads and names."""
    return [leaf for leaf in leaves if not isinstance(leaf, str)]


def needed_entries(bodies, tale, runs):
    """The leaves of the entries with letters that the last one needs, and of the last one; ascending by numbers."""
    leaves = {}
    waiting = [len(tale) - 1]
    while waiting:
        number = waiting.pop()
        if number not in leaves:
            leaves[number] = leaves_of(bodies, tale[number])
            waiting.extend([other for other in named_in(leaves[number]) if runs[other].length > 0])
    ordered = {}
    for number in sorted(leaves):
        ordered[number] = leaves[number]
    return ordered
