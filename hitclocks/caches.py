"""Memories of caches: rows of lines that are held, each clean or dirty."""

from hitclocks.errors import BadBack, BadLines, BadRule, BadState, BadWays, TooMany
from hitclocks.kinds import is_number_from
from hitclocks.memories import Memory

LINES = "abcdef"
WRITTEN = "ABCDEF"
MOST_WAYS = 4
MOST_STATES = 40


def cache(rule, ways, lines, back):
    """The memory of a cache that is empty at first."""
    check_cache(rule, ways, lines, back)
    return rows_and_moves(rule, ways, lines, back, ())[1]


def held(rule, ways, lines, back, state):
    """What the cache holds in a state: pairs of a line and whether it is dirty, the front first."""
    check_cache(rule, ways, lines, back)
    rows, _ = rows_and_moves(rule, ways, lines, back, ())
    if not is_number_from(state, 0, len(rows) - 1):
        raise BadState("not a state of the cache")
    return rows[state]


def check_cache(rule, ways, lines, back):
    """BadRule, BadWays, BadLines, BadBack."""
    if rule not in ("last", "first"):
        raise BadRule("neither last nor first")
    if not is_number_from(ways, 1, MOST_WAYS):
        raise BadWays("not a number from 1 to 4")
    if not is_number_from(lines, 1, len(LINES)):
        raise BadLines("not a number from 1 to 6")
    if back not in ("late", "once"):
        raise BadBack("neither late nor once")


def letters_of_lines(lines):
    """The tuple of the letters of so many lines, ascending."""
    return tuple(WRITTEN[:lines] + LINES[:lines])


def rows_and_moves(rule, ways, lines, back, lot):
    """The rows that stand for the states, and the memory over them; the lines of a lot are held beside the rows."""
    letters = letters_of_lines(lines)
    rows = [()]
    numbers = {(): 0}
    moves = []
    while len(moves) < len(rows):
        row = rows[len(moves)]
        answers = []
        for letter in letters:
            if letter.lower() in lot:
                after, a, b = row, 0, 1 if is_written_back(letter, back) else 0
            else:
                after, a, b = answered(rule, ways - len(lot), back, row, letter)
            if after not in numbers:
                numbers[after] = len(rows)
                rows.append(after)
            answers.append((numbers[after], a, b))
        if len(rows) > MOST_STATES:
            raise TooMany(MOST_STATES)
        moves.append(tuple(answers))
    return (rows, Memory(letters, tuple(moves)))


def answered(rule, ways, back, row, letter):
    """The row behind a letter, and both numbers that it costs."""
    line = letter.lower()
    after, a, b = brought(rule, ways, row, line)
    if is_written_back(letter, back):
        return (after, a, b + 1)
    if letter != line:
        after = tuple([(name, dirty or name == line) for name, dirty in after])
    return (after, a, b)


def is_written_back(letter, back):
    """Whether a letter writes its line back at once."""
    return letter in WRITTEN and back == "once"


def brought(rule, ways, row, line):
    """The row that holds a line, and both numbers that bringing it costs."""
    known = [pair for pair in row if pair[0] == line]
    others = [pair for pair in row if pair[0] != line]
    if known and rule == "first":
        return (row, 0, 0)
    if known:
        return (tuple(known + others), 0, 0)
    if len(row) < ways:
        return (((line, False),) + row, 1, 0)
    return (((line, False),) + row[:-1], 1, 1 if row[-1][1] else 0)
