"""Records of runs, and the tales that are made of them.

An item is a number for a symbol, a state and an end; a record tells one way to do an item by earlier records.
"""

from hitclocks.folds import folded

NO_RECORD = -1


class Records:
    """For each record its item, and the records of its parts."""

    def __init__(self, grammar, many):
        self.grammar = grammar
        self.many = many
        self.subjects = []
        self.lefts = []
        self.rights = []

    def put(self, item, left, right):
        """Takes down a new record; its number."""
        self.subjects.append(item)
        self.lefts.append(left)
        self.rights.append(right)
        return len(self.subjects) - 1

    def symbol_of(self, record):
        """The symbol that a record does."""
        return self.subjects[record] // (self.many * self.many)

    def head_of(self, record):
        """The head that a record does; None if it does another symbol."""
        symbol = self.symbol_of(record)
        return self.grammar.heads[symbol] if symbol < len(self.grammar.heads) else None

    def ends_of(self, record):
        """The pair of the state and the end of a record."""
        return (self.subjects[record] // self.many % self.many, self.subjects[record] % self.many)

    def parts_of(self, record):
        """The list of the records of the parts of a record."""
        return [part for part in (self.lefts[record], self.rights[record]) if part != NO_RECORD]

    def chained(self, links, last):
        """A record of the first one of these links, each of which has the next one as its part, the last one last.

        A link is an item, two records of its parts, and which one of these (0 or 1) the next link stands for.
        """
        record = last
        for item, left, right, place in reversed(links):
            record = self.put(item, left, record) if place == 1 else self.put(item, record, right)
        return record


def heads_needed(records, record):
    """The list of the nearest records of heads that are needed for a record of a head."""
    found = []
    waiting = records.parts_of(record)
    while waiting:
        part = waiting.pop()
        if records.head_of(part) is not None:
            found.append(part)
        else:
            waiting.extend(records.parts_of(part))
    return found


def tale_from(records, last, gap):
    """The tale whose last entry is a record of a head; with a gap in front if that is a record."""
    needed = {last: True}
    waiting = [last]
    while waiting:
        record = waiting.pop()
        for part in heads_needed(records, record):
            if part not in needed:
                needed[part] = True
                waiting.append(part)
    numbers = {} if gap == NO_RECORD else {gap: 0}
    for record in sorted(needed):
        if record != gap:
            numbers[record] = len(numbers)
    return tuple([entry_of(records, record, numbers, record == gap) for record in numbers])


def entry_of(records, record, numbers, is_gap):
    """The entry of a record of a head, the entries that it names being numbered."""
    head = records.head_of(record)
    state, end = records.ends_of(record)
    if is_gap:
        return ("gap", head, state, end)
    left = records.lefts[record]
    if len(head) == 1:
        return (head, state, play_of(records, left, numbers))
    if left == NO_RECORD:
        return (head, state, ("end",))
    return (head, state, ("more", play_of(records, left, numbers), numbers[records.rights[record]]))


def play_of(records, record, numbers):
    """The play of a record of a place in a body."""
    return folded(
        record,
        lambda part: played_in(records, part),
        lambda whole, plays: play_by(records, whole, plays, numbers))


def played_in(records, record):
    """The list of the records of the parts that the play of a record plays."""
    if records.head_of(record) is not None:
        return []
    shape = records.grammar.shapes[records.symbol_of(record)]
    if shape[0] == "either":
        return [records.lefts[record]]
    if shape[0] == "then":
        return parts_in_order(records, record, len(shape[1]))
    return rounds_in_order(records, record) if shape[0] == "times" else []


def play_by(records, record, plays, numbers):
    """The play of a record, the plays of its parts being known."""
    head = records.head_of(record)
    if head is not None:
        return ("call" if len(head) == 1 else "any", numbers[record])
    shape = records.grammar.shapes[records.symbol_of(record)]
    if shape[0] == "either":
        return ("either", shape[1].index(records.symbol_of(records.lefts[record])), plays[0])
    return (shape[0], tuple(plays)) if shape[0] in ("then", "times") else (shape[0],)


def parts_in_order(records, record, many):
    """The records of so many parts, each one but the last beside one of what is left."""
    parts = []
    if many == 1:
        return [records.lefts[record]]
    for _ in range(many - 1):
        parts.append(records.lefts[record])
        record = records.rights[record]
    return parts + [record] if many > 1 else []


def rounds_in_order(records, record):
    """The records of the rounds, each one beside one of what is left."""
    parts = []
    while records.lefts[record] != NO_RECORD:
        parts.append(records.lefts[record])
        record = records.rights[record]
    return parts
