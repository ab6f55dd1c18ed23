"""Questions of one line to a desk: their forms, and what is answered."""

from hitclocks.dearest import most_at
from hitclocks.fronts import is_below
from hitclocks.kinds import is_ascending, is_letter, is_name
from hitclocks.memories import Memory, read
from hitclocks.programs import in_rings, is_word_of, never, words_of
from hitclocks.rows import number_in, pair_text
from hitclocks.texts import front_text, memory_text, program_text, word_text
from hitclocks.wholes import cheapest, critical, whole

MOST_DIGITS_ASKED = 12
# For each first word what follows it: m a memory, p a program, t either of both, s a state, g goals, x a price,
# n a number, l letters up to the end.
FORMS = {
    "names": "",
    "show": "t",
    "whole": "mpsg",
    "cheapest": "mpsg",
    "critical": "mpsg",
    "most": "mpsgx",
    "below": "mppsg",
    "words": "pn",
    "never": "p",
    "rings": "p",
    "read": "msl",
    "reads": "pl",
}
NAMED = "mpt"


def question_in(line):
    """The first word of a line and the list of pairs of a sign of its form and a value; None if it has no form."""
    if not isinstance(line, str):
        return None
    words = line.split(" ")
    form = FORMS.get(words[0], None)
    if form is None:
        return None
    said = words[1:]
    if form.endswith("l") and len(said) > len(form):
        last = len(form) - 1
        said = said[:last] + [" ".join(said[last:])]
    if len(said) != len(form):
        return None
    asked = [(sign, value_in(sign, word)) for sign, word in zip(form, said)]
    for _, value in asked:
        if value is None:
            return None
    return (words[0], asked)


def value_in(sign, text):
    """The value that a text has for a sign of a form; None if it has none."""
    if sign in NAMED:
        return text if is_name(text) else None
    if sign == "l":
        return letters_in(text)
    if sign == "g":
        goals = tuple([short_number_in(number) for number in text.split(",")])
        return goals if None not in goals and is_ascending(goals) else None
    if sign == "x":
        price = tuple([short_number_in(number) for number in text.split(":")])
        return price if None not in price and len(price) == 2 else None
    return short_number_in(text)


def short_number_in(text):
    """The number from 0, of at most 12 digits, that a text is; None if it is none."""
    return number_in(text) if len(text) <= MOST_DIGITS_ASKED else None


def letters_in(text):
    """The tuple of the letters that a text tells, "-" for none; None if it tells none."""
    letters = () if text == "-" else tuple(text.split(" "))
    for letter in letters:
        if not is_letter(letter):
            return None
    return letters


def listed(told, between):
    """The text of some texts, with this between them; "none" if there are none."""
    texts = []
    for at, text in enumerate(told):
        texts.extend([between, text] if at > 0 else [text])
    return "".join(texts) if texts else "none"


def text_of(thing):
    """The text of a memory or a program."""
    return memory_text(thing) if isinstance(thing, Memory) else program_text(thing)


def whole_told(memory, program, start, goals):
    """The answer to "whole"."""
    return front_text(whole(memory, program, start, goals))[:-1]


def cheapest_told(memory, program, start, goals):
    """The answer to "cheapest"."""
    return front_text(cheapest(memory, program, start, goals))[:-1]


def critical_told(memory, program, start, goals):
    """The answer to "critical"."""
    prices = critical(whole(memory, program, start, goals))
    return listed([pair_text(price, ":") for price in prices], " ")


def most_told(memory, program, start, goals, price):
    """The answer to "most"."""
    most = most_at(memory, program, start, goals, price)
    return "nothing" if most is None else str(most)


def below_told(memory, program, other, start, goals):
    """The answer to "below"."""
    return yes_or_no(is_below(whole(memory, program, start, goals), whole(memory, other, start, goals)))


def yes_or_no(is_so):
    """The answer that tells whether it is so."""
    return "yes" if is_so else "no"


def words_told(program, most):
    """The answer to "words"."""
    return listed([word_text(word) for word in words_of(program, most)], ", ")


def never_told(program):
    """The answer to "never"."""
    return listed(never(program), " ")


def rings_told(program):
    """The answer to "rings"."""
    return listed(in_rings(program), " ")


def read_told(memory, state, word):
    """The answer to "read"."""
    end, paid = read(memory, state, word)
    return str(end) + " " + pair_text(paid, ",")


def reads_told(program, word):
    """The answer to "reads"."""
    return yes_or_no(is_word_of(program, word))


ANSWERS = {
    "show": text_of,
    "whole": whole_told,
    "cheapest": cheapest_told,
    "critical": critical_told,
    "most": most_told,
    "below": below_told,
    "words": words_told,
    "never": never_told,
    "rings": rings_told,
    "read": read_told,
    "reads": reads_told,
}


def answered(word, values):
    """The answer to a question with this first word and these values."""
    answer = ANSWERS[word]
    return answer(*values)
