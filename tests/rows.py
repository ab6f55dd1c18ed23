"""What the document says of texts, by its words: which row of a text is the first one that cannot stand."""

import re

from hitclocks.fronts import is_front

NUMBER = "(?:0|[1-9][0-9]*)"
SIGNED = "(?:0|-?[1-9][0-9]*)"
LETTER = "[A-Za-z0-9.]{1,12}"
NAME = "[a-z][a-z0-9.]{0,11}"


def matches(pattern, text):
    return re.fullmatch(pattern, text, re.ASCII | re.DOTALL)


def rows_of(text):
    """The list of rows with their line feeds; None for a last one without."""
    rows = text.split("\n")
    return rows[:-1] + ([None] if rows[-1] else [])


def judged(text, fits, many_of):
    """The first row that cannot stand: fits(at, row, rows ahead) tells of one, many_of(rows) how many there are, once known."""
    rows = rows_of(text)
    for at, row in enumerate(rows):
        many = many_of(rows[:at])
        if many is not None and at >= many or row is None or not fits(at, row, rows[:at]):
            return at
    return None if many_of(rows) == len(rows) else len(rows)


def memory_row(text):
    def fits(at, row, ahead):
        if at == 0:
            return matches("memory [1-9][0-9]{0,2}", row) and int(row[7:]) <= 120
        if at == 1:
            letters = row.split(" ")[1:]
            return matches("letters(?: " + LETTER + ")+", row) and letters == sorted(set(letters)) and len(letters) <= 72
        many, letters = int(ahead[0][7:]), ahead[1].split(" ")[1:]
        found = matches(NUMBER + ":((?: " + NUMBER + "/" + SIGNED + "/" + SIGNED + ")+)", row)
        if not found or row.split(":")[0] != str(at - 2):
            return False
        moves = [[int(number) for number in move.split("/")] for move in found.group(1).split(" ")[1:]]
        return len(moves) == len(letters) and all(place < many and abs(a) <= 999 and abs(b) <= 999 for place, a, b in moves)

    return judged(text, fits, lambda rows: int(rows[0][7:]) + 2 if rows and rows[0] and fits(0, rows[0], []) else None)


def is_body(text):
    """Whether a text is that of a body, by its form."""
    def body(at):
        """Where a body that begins here ends; None if there is none."""
        found = re.compile("none|read " + LETTER + "|call " + NAME, re.ASCII).match(text, at)
        if found:
            return found.end()
        found = re.compile("(then|either|any|times ([0-9]) ([0-9]))\\(", re.ASCII).match(text, at)
        if not found or found.group(2) and found.group(2) > found.group(3):
            return None
        at, parts = found.end(), 0
        while text[at:at + 1] != ")" or parts:
            at = body(at)
            parts += 1
            if at is None or text[at:at + 1] == ")":
                break
            if text[at:at + 2] != ", ":
                return None
            at += 2
        if at is None or not (parts <= 8 if found.group(1) in ("then", "either") else parts == 1):
            return None
        return at + 1

    return body(0) == len(text)


def program_row(text):
    def fits(at, row, ahead):
        names = [other.split(" ")[0] for other in ahead]
        found = matches("(" + NAME + ") = (.*)", row)
        if found:
            return is_body(found.group(2)) and at < 64 and (not names or names[-1] < found.group(1))
        return matches("first " + NAME, row) and row[6:] in names

    def many_of(rows):
        return len(rows) if rows and rows[-1] is not None and matches("first " + NAME, rows[-1]) else None

    return judged(text, fits, many_of)


def front_row(text):
    def fits(at, row, ahead):
        if row in ("nothing", "endless"):
            return True
        pair, price = SIGNED + "," + SIGNED, NUMBER + ":" + NUMBER

        def numbers(word, sign):
            return tuple(int(number) for number in word.split(sign))

        words = row.split(" ")
        if matches("at " + price + " " + SIGNED, row):
            return is_front(("at", numbers(words[1], ":"), int(words[2])))
        if matches("over " + price + " " + price + "(?: " + pair + ")+", row):
            return is_front(("over", numbers(words[1], ":"), numbers(words[2], ":"), tuple(numbers(word, ",") for word in words[3:])))
        return False

    return judged(text, fits, lambda rows: 1)


def is_play(text):
    def play(at):
        found = re.compile("(?:none|read|end)|(?:any|call) " + NUMBER, re.ASCII).match(text, at)
        if found:
            return found.end()
        found = re.compile("(then|times|more|either " + NUMBER + ")\\(", re.ASCII).match(text, at)
        if not found:
            return None
        at, kind = found.end(), found.group(1)
        if kind in ("then", "times") and text[at:at + 1] == ")":
            return at + 1
        at = play(at)
        while kind in ("then", "times") and at is not None and text[at:at + 2] == ", ":
            at = play(at + 2)
        if kind == "more" and at is not None:
            more = re.compile(", " + NUMBER, re.ASCII).match(text, at)
            at = more.end() if more else None
        return at + 1 if at is not None and text[at:at + 1] == ")" else None

    return play(0) == len(text)


def tale_row(text):
    head = NAME + "(?:/(?:" + NUMBER + "(?:\\." + NUMBER + ")*)?)?"

    def fits(at, row, ahead):
        if at == 0 and matches("gap " + head + " " + NUMBER + " " + NUMBER, row):
            return True
        found = matches(head + " " + NUMBER + " (.*)", row)
        return found and is_play(found.group(1))

    return judged(text, fits, lambda rows: None) if not text or rows_of(text)[-1] is None else judged(text, fits, lambda rows: len(rows_of(text)))


def word_row(text):
    if text == "-" or matches(LETTER + "(?: " + LETTER + "){0,1999}", text):
        return None
    return 0


def near(text, signs):
    """Texts that are like this one but for one sign, one row, or the end."""
    for at in range(len(text) + 1):
        yield text[:at]
        yield text[:at] + text[at + 1:]
        for sign in signs:
            yield text[:at] + sign + text[at:]
            yield text[:at] + sign + text[at + 1:]
    rows = text.split("\n")
    for at in range(len(rows)):
        yield "\n".join(rows[:at] + rows[at + 1:])
        yield "\n".join(rows[:at] + rows[at:at + 1] + rows[at:])
        yield "\n".join(rows[:at] + [rows[at] + "\r"] + rows[at + 1:])
        yield "\n".join(rows[:at] + [rows[at].upper()] + rows[at + 1:])
        if at:
            yield "\n".join(rows[:at - 1] + [rows[at], rows[at - 1]] + rows[at + 1:])
    yield text.replace("\n", "\r\n")
    yield text.replace("\n", "\x0b")
    yield text + text
    yield "\ufeff" + text
