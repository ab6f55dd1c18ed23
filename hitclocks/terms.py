"""Texts of words and brackets, such as "then(none, read a)", however deep they are."""

BETWEEN = ", "
STOPS = "(),"


def written(node, pieces_of):
    """The text of a node; pieces_of lists the strings and the nodes of which a node is written."""
    told = []
    waiting = [node]
    while waiting:
        here = waiting.pop()
        if isinstance(here, str):
            told.append(here)
        else:
            waiting.extend(pieces_of(here)[::-1])
    return "".join(told)


def in_brackets(head, parts):
    """The list of a head and the parts in brackets behind it."""
    pieces = [head + "("]
    for at, part in enumerate(parts):
        if at > 0:
            pieces.append(BETWEEN)
        pieces.append(part)
    return pieces + [")"]


def term_in(text, told):
    """What a text stands for: told(head, items) tells it of a head and of what stands for the items behind it.

    items is None where no brackets stand behind the head. None if the text is none, or told tells None anywhere.
    """
    frames = []
    at = 0
    while True:
        end = end_of_head(text, at)
        head = text[at:end]
        at = end
        if text[at:at + 2] == "()":
            at += 2
            value = told(head, [])
        elif text[at:at + 1] == "(":
            at += 1
            frames.append((head, []))
            continue
        else:
            value = told(head, None)
        while value is not None and frames and text[at:at + 1] == ")":
            at += 1
            head, items = frames.pop()
            value = told(head, items + [value])
        if value is None or not frames:
            return value if at == len(text) else None
        if text[at:at + 2] != BETWEEN:
            return None
        at += 2
        frames[-1][1].append(value)


def end_of_head(text, at):
    """The place of the first bracket or comma from a place on, or the end of the text."""
    while at < len(text) and text[at] not in STOPS:
        at += 1
    return at
