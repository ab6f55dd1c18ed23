"""Texts of memories, programs, fronts and words, written and read."""

from hitclocks.bodies import MOST_PARTS, is_range
from hitclocks.errors import BadText, BadWord
from hitclocks.fronts import ENDLESS, check_front, is_front
from hitclocks.gaps import is_word
from hitclocks.kinds import is_letter, is_name, is_number_from, is_row_of_letters
from hitclocks.memories import MOST_LETTERS, MOST_STATES, Memory, check_memory, is_move
from hitclocks.programs import MOST_PROCEDURES, Program, check_program
from hitclocks.rows import check_end, number_in, pair_text, row_at, rows_of, signed_in, signed_pair_in
from hitclocks.terms import in_brackets, term_in, written

MOST_LETTERS_OF_WORD = 2000
NO_LETTERS = "-"


def memory_text(memory):
    """The text of a memory."""
    check_memory(memory)
    rows = ["memory " + str(len(memory)), " ".join(["letters"] + list(memory.letters))]
    for state, row in enumerate(memory.moves):
        words = [str(state) + ":"]
        for place, a, b in row:
            words.append(str(place) + "/" + str(a) + "/" + str(b))
        rows.append(" ".join(words))
    return "\n".join(rows) + "\n"


def memory_of(text):
    """The memory of which a text tells."""
    rows = rows_of(text)
    words = row_at(rows, 0).split(" ")
    many = number_in(words[1]) if len(words) == 2 and words[0] == "memory" else None
    if not is_number_from(many, 1, MOST_STATES):
        raise BadText(0)
    words = row_at(rows, 1).split(" ")
    letters = tuple(words[1:])
    if words[0] != "letters" or not is_row_of_letters(letters, MOST_LETTERS):
        raise BadText(1)
    moves = []
    for state in range(many):
        moves.append(moves_in(row_at(rows, state + 2), state, len(letters), many))
        if moves[state] is None:
            raise BadText(state + 2)
    check_end(rows, many + 2)
    return Memory(letters, tuple(moves))


def moves_in(row, state, letters, states):
    """The tuple of moves that a row tells for a state, one for each of so many letters; None if it tells none."""
    words = row.split(" ")
    if words[0] != str(state) + ":" or len(words) != letters + 1:
        return None
    moves = []
    for word in words[1:]:
        numbers = word.split("/")
        move = tuple([signed_in(number) for number in numbers])
        if not is_move(move, states):
            return None
        moves.append(move)
    return tuple(moves)


def program_text(program):
    """The text of a program."""
    check_program(program)
    rows = []
    for name, body in program.procedures.items():
        rows.append(name + " = " + written(body, pieces_of_body))
    rows.append("first " + program.first)
    return "\n".join(rows) + "\n"


def pieces_of_body(body):
    """The list of the strings and the bodies of which a body is written."""
    tag = body[0]
    if tag == "then" or tag == "either":
        return in_brackets(tag, body[1])
    if tag == "times":
        return in_brackets("times " + str(body[1]) + " " + str(body[2]), body[3:])
    if tag == "any":
        return in_brackets(tag, body[1:])
    return [" ".join(body)]


def program_of(text):
    """The program of which a text tells."""
    rows = rows_of(text)
    procedures = {}
    before = ""
    first = None
    while first is None:
        at = len(procedures)
        row = row_at(rows, at)
        first = first_in(row, procedures)
        if first is None:
            name, body = procedure_in(row)
            if body is None or name <= before or at == MOST_PROCEDURES:
                raise BadText(at)
            procedures[name] = body
            before = name
    check_end(rows, len(procedures) + 1)
    return Program(procedures, first)


def first_in(row, procedures):
    """The name that a row tells as that of the first one of some procedures; None if it tells none."""
    tag, _, name = row.partition(" ")
    return name if tag == "first" and name in procedures else None


def procedure_in(row):
    """The name and the body of which a row tells; the body is None if it tells none."""
    name, sign, body = row.partition(" = ")
    return (name, term_in(body, body_told) if sign and is_name(name) else None)


def body_told(head, items):
    """The body of a head and of the bodies in brackets behind it, None for no brackets; None if there is none."""
    if items is None:
        tag, _, said = head.partition(" ")
        if tag == "read" and is_letter(said) or tag == "call" and is_name(said):
            return (tag, said)
        return ("none",) if head == "none" else None
    if head in ("then", "either"):
        return (head, tuple(items)) if len(items) <= MOST_PARTS else None
    if len(items) != 1:
        return None
    words = head.split(" ")
    if len(words) == 3 and words[0] == "times":
        low, high = number_in(words[1]), number_in(words[2])
        return ("times", low, high, items[0]) if is_range(low, high) else None
    return ("any", items[0]) if head == "any" else None


def front_text(front):
    """The text of a front."""
    check_front(front)
    if front is None:
        return "nothing\n"
    words = [front[0]]
    if front[0] == "at":
        words.extend([pair_text(front[1], ":"), str(front[2])])
    elif front[0] == "over":
        words.extend([pair_text(front[1], ":"), pair_text(front[2], ":")])
        words.extend([pair_text(corner, ",") for corner in front[3]])
    return " ".join(words) + "\n"


def front_from(text):
    """The front of which a text tells."""
    rows = rows_of(text)
    row = row_at(rows, 0)
    front = front_in(row.split(" "))
    if not is_front(front) or front is None and row != "nothing":
        raise BadText(0)
    check_end(rows, 1)
    return front


def front_in(words):
    """The front of which words tell, if they tell of one; otherwise None or what is no front."""
    if words == ["endless"]:
        return ENDLESS
    if words[0] == "at" and len(words) == 3:
        return ("at", signed_pair_in(words[1], ":"), signed_in(words[2]))
    if words[0] == "over" and len(words) > 3:
        corners = tuple([signed_pair_in(word, ",") for word in words[3:]])
        return ("over", signed_pair_in(words[1], ":"), signed_pair_in(words[2], ":"), corners)
    return None


def word_text(word):
    """The text of a word."""
    if not is_word(word) or len(word) > MOST_LETTERS_OF_WORD:
        raise BadWord("not a tuple of up to 2000 letters")
    return " ".join(word) if word else NO_LETTERS


def word_from(text):
    """The word of which a text tells."""
    if not isinstance(text, str):
        raise BadText(None)
    word = () if text == NO_LETTERS else tuple(text.split(" "))
    if not is_word(word) or len(word) > MOST_LETTERS_OF_WORD:
        raise BadText(0)
    return word
