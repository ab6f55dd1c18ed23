"""Words behind which it is the same in which state a memory began."""

from hitclocks.alike import alike_classes, word_of_ways
from hitclocks.errors import TooMany
from hitclocks.kinds import is_list, is_pair
from hitclocks.memories import check_memory, is_state
from hitclocks.spelling import bits

MOST_CLASSES = 12


def settling(memory):
    """The first of the shortest words behind which all states are alike; None if there is none."""
    check_memory(memory)
    classes = alike_classes(memory)
    rows = class_moves(memory, classes)
    if len(rows) > MOST_CLASSES:
        raise TooMany(MOST_CLASSES)
    masks = [(1 << len(rows)) - 1]
    known = {masks[0]: True}
    ways = [()]
    number = 0
    while number < len(masks):
        places = bits(masks[number])
        if len(places) == 1:
            return word_of_ways(ways, number)
        for column, letter in enumerate(memory.letters):
            mask = 0
            for place in places:
                mask = mask | 1 << rows[place][column]
            if mask not in known:
                known[mask] = True
                masks.append(mask)
                ways.append((number, letter))
        number += 1
    return None


def class_moves(memory, classes):
    """For each class of alike states the tuple of the classes to which the letters lead."""
    rows = {}
    for state, row in enumerate(memory.moves):
        rows[classes[state]] = tuple([classes[place] for place, _, _ in row])
    return [rows[number] for number in range(len(rows))]


def in_order(one, other):
    """The pair of both, the lesser one first."""
    return (one, other) if one < other else (other, one)


def unsettled(memory):
    """Pairs of states, not alike, that each letter leads to such pairs again; None if some word settles."""
    check_memory(memory)
    classes = alike_classes(memory)
    apart = pairs_kept_apart(class_moves(memory, classes))
    found = []
    for s in range(len(memory)):
        for t in range(s + 1, len(memory)):
            if in_order(classes[s], classes[t]) in apart:
                found.append((s, t))
    return found if found else None


def pairs_kept_apart(rows):
    """The dict from the pairs of unlike classes that no word leads to one class to True."""
    led = {}
    waiting = []
    apart = {}
    for s in range(len(rows)):
        for t in range(s + 1, len(rows)):
            apart[(s, t)] = True
            for one, other in zip(rows[s], rows[t]):
                if one == other:
                    waiting.append((s, t))
                else:
                    led.setdefault(in_order(one, other), []).append((s, t))
    while waiting:
        pair = waiting.pop()
        if pair in apart:
            del apart[pair]
            waiting.extend(led.get(pair, []))
    return apart


def is_unsettled(memory, thing):
    """Whether any value is a list of pairs of states, not alike, that each letter leads to pairs of the list."""
    check_memory(memory)
    if not is_list(thing) or len(thing) == 0:
        return False
    classes = alike_classes(memory)
    listed = {}
    for pair in thing:
        if not is_pair(pair) or not is_state(memory, pair[0]) or not is_state(memory, pair[1]):
            return False
        if pair[0] >= pair[1] or classes[pair[0]] == classes[pair[1]]:
            return False
        listed[pair] = True
    for s, t in listed:
        for (one, _, _), (other, _, _) in zip(memory.moves[s], memory.moves[t]):
            if in_order(one, other) not in listed:
                return False
    return True
