"""Texts of tales, written and read."""

from hitclocks.errors import BadTale, BadText
from hitclocks.kinds import is_name, is_tagged, is_tuple_of
from hitclocks.rows import is_from_0, number_in, row_at, rows_of
from hitclocks.terms import in_brackets, term_in, written


def tale_text(tale):
    """The text of a tale, with a gap in front or without one."""
    if not isinstance(tale, tuple) or len(tale) == 0:
        raise BadTale(None)
    rows = []
    for at, entry in enumerate(tale):
        if at == 0 and is_gap_by_form(entry):
            rows.append(" ".join(["gap", head_text(entry[1]), str(entry[2]), str(entry[3])]))
        elif is_entry_by_form(entry):
            rows.append(" ".join([head_text(entry[0]), str(entry[1]), written(entry[2], pieces_of_play)]))
        else:
            raise BadTale(at)
    return "\n".join(rows) + "\n"


def is_gap_by_form(thing):
    """Whether any value is a gap by its form."""
    return is_tagged(thing, "gap", 4) and is_head_by_form(thing[1]) and is_from_0(thing[2]) and is_from_0(thing[3])


def is_entry_by_form(thing):
    """Whether any value is an entry, but no gap, by its form."""
    if not is_tuple_of(thing, 3) or not is_head_by_form(thing[0]) or not is_from_0(thing[1]):
        return False
    waiting = [thing[2]]
    while waiting:
        play = waiting.pop()
        if not is_begun_as_play(play):
            return False
        waiting.extend(plays_in(play))
    return True


def is_head_by_form(thing):
    """Whether any value is a head by its form."""
    if not isinstance(thing, tuple) or not 1 <= len(thing) <= 2 or not is_name(thing[0]):
        return False
    if len(thing) == 1:
        return True
    if not isinstance(thing[1], tuple):
        return False
    for index in thing[1]:
        if not is_from_0(index):
            return False
    return True


def is_begun_as_play(thing):
    """Whether any value is a play, whatever the plays in it are."""
    for tag in ("none", "read", "end"):
        if is_tagged(thing, tag, 1):
            return True
    if is_tagged(thing, "then", 2) or is_tagged(thing, "times", 2):
        return isinstance(thing[1], tuple)
    if is_tagged(thing, "any", 2) or is_tagged(thing, "call", 2) or is_tagged(thing, "either", 3):
        return is_from_0(thing[1])
    return is_tagged(thing, "more", 3) and is_from_0(thing[2])


def plays_in(play):
    """The tuple of the plays in a play."""
    if play[0] == "then" or play[0] == "times":
        return play[1]
    if play[0] == "either":
        return play[2:]
    return play[1:2] if play[0] == "more" else ()


def pieces_of_play(play):
    """The list of the strings and the plays of which a play is written."""
    tag = play[0]
    if tag == "then" or tag == "times":
        return in_brackets(tag, play[1])
    if tag == "either":
        return in_brackets("either " + str(play[1]), play[2:])
    if tag == "more":
        return in_brackets(tag, [play[1], str(play[2])])
    if tag == "any" or tag == "call":
        return [tag + " " + str(play[1])]
    return [tag]


def head_text(head):
    """The text of a head."""
    if len(head) == 1:
        return head[0]
    return head[0] + "/" + ".".join([str(index) for index in head[1]])


def tale_from(text):
    """The tale of which a text tells."""
    rows = rows_of(text)
    row_at(rows, 0)
    entries = []
    for at in range(len(rows)):
        row = row_at(rows, at)
        entry = gap_in(row) if at == 0 else None
        if entry is None:
            entry = entry_in(row)
        if entry is None:
            raise BadText(at)
        entries.append(entry)
    return tuple(entries)


def gap_in(row):
    """The gap of which a row tells; None if it tells of none."""
    words = row.split(" ")
    if len(words) != 4 or words[0] != "gap":
        return None
    gap = ("gap", head_in(words[1]), number_in(words[2]), number_in(words[3]))
    return gap if is_gap_by_form(gap) else None


def entry_in(row):
    """The entry, but no gap, of which a row tells; None if it tells of none."""
    words = row.split(" ", 2)
    if len(words) != 3:
        return None
    entry = (head_in(words[0]), number_in(words[1]), term_in(words[2], play_told))
    return entry if is_entry_by_form(entry) else None


def head_in(text):
    """The head of which a text tells, if it tells of one; otherwise what is none."""
    name, sign, path = text.partition("/")
    if not sign:
        return (name,)
    return (name, tuple([number_in(index) for index in path.split(".")]) if path else ())


def play_told(head, items):
    """What a head and the items in brackets behind it are by their form: a play, a number, or None."""
    tag, _, said = head.partition(" ")
    number = number_in(said)
    if items is None:
        if head in ("none", "read", "end"):
            return (head,)
        return (tag, number) if tag in ("any", "call") and number is not None else number_in(head)
    if head in ("then", "times"):
        return (head, tuple(items))
    if tag == "either" and number is not None and len(items) == 1:
        return ("either", number, items[0])
    return ("more", items[0], items[1]) if head == "more" and len(items) == 2 else None
