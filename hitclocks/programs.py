"""Programs: procedures with choices and loops, and their words."""

from hitclocks.bodies import are_same, is_body, is_heavy, said_in, turned
from hitclocks.errors import BadNumber, BadProgram, NoLetter, TooMany
from hitclocks.grammars import Grammar
from hitclocks.kinds import is_name, is_number_from
from hitclocks.spelling import Spelling, ends_from_first, with_words

MOST_PROCEDURES = 64
MOST_WORD = 12
MOST_TUPLES = 3000


class Program:
    """Procedures by their names, and the name of the first one."""

    def __init__(self, procedures, first):
        check_procedures(procedures)
        if not isinstance(first, str) or first not in procedures:
            raise BadProgram("first")
        self._bodies = in_key_order(procedures)
        self.first = first

    @property
    def procedures(self):
        """A new dict of the bodies each time, so that what a caller does to it changes no program."""
        return {name: self._bodies[name] for name in self._bodies}

    def __eq__(self, other):
        if not isinstance(other, Program):
            return False
        return self.first == other.first and are_same_procedures(self._bodies, other._bodies)


def are_same_procedures(one, other):
    """Whether two dicts have the same names, with equal bodies."""
    if list(one) != list(other):
        return False
    for name in one:
        if not are_same(one[name], other[name]):
            return False
    return True


def check_procedures(procedures):
    """BadProgram unless it is a dict of names to bodies that call each other."""
    if not isinstance(procedures, dict) or not 1 <= len(procedures) <= MOST_PROCEDURES:
        raise BadProgram(None)
    for name in procedures:
        if not is_name(name):
            raise BadProgram(None)
    for name in sorted(procedures):
        if not is_body(procedures[name], procedures) or is_heavy(procedures[name]):
            raise BadProgram(name)


def in_key_order(table):
    """A new dict with the same items, the keys ascending."""
    ordered = {}
    for key in sorted(table):
        ordered[key] = table[key]
    return ordered


def made_program(procedures, first):
    """The Program with these procedures, whatever their loads are."""
    made = Program({"x": ("none",)}, "x")
    made._bodies = in_key_order(procedures)
    made.first = first
    return made


def first_free(sign, taken):
    """The first of the names of this sign and a number, from 0 on, that is not taken."""
    number = 0
    while sign + str(number) in taken:
        number += 1
    return sign + str(number)


def check_program(program):
    """BadProgram(None) unless it is a Program."""
    if not isinstance(program, Program):
        raise BadProgram(None)


def check_program_over(memory, program):
    """BadProgram(None), NoLetter with the least letter that the memory does not have."""
    check_program(program)
    check_letters_among(memory.letters, program)


def check_letters_among(letters, program):
    """NoLetter with the least letter of the program that is none of these."""
    for letter in letters_of(program):
        if letter not in letters:
            raise NoLetter(letter)


def letters_of(program):
    """The ascending tuple of all letters that stand in the bodies."""
    check_program(program)
    letters = {}
    for body in program.procedures.values():
        letters.update(said_in(body, "read"))
    return tuple(sorted(letters))


def is_word_of(program, word):
    """Whether any value is a word of the program."""
    check_program(program)
    if not isinstance(word, tuple):
        return False
    letters = letters_of(program)
    steps = []
    for letter in word:
        if not isinstance(letter, str) or letter not in letters:
            return False
        steps.append({letter: len(steps) + 1})
    steps.append({})
    return len(word) in ends_of(program, steps)


def ends_of(program, steps):
    """The ascending list of the places to which words lead from place 0 of these steps."""
    grammar = Grammar(program.procedures)
    return ends_from_first(Spelling(grammar), grammar.numbers[(program.first,)], steps)


def words_of(program, most):
    """The list of all words of up to so many letters, shorter ones first, then ascending."""
    check_program(program)
    if not is_number_from(most, 0, MOST_WORD):
        raise BadNumber("not a number from 0 to 12")
    letters = letters_of(program)
    if tuples_up_to(len(letters), most) > MOST_TUPLES:
        raise TooMany(MOST_TUPLES)
    words = [()]
    steps = [{}]
    layer = [0]
    for _ in range(most):
        longer = []
        for place in layer:
            for letter in letters:
                steps[place][letter] = len(words)
                longer.append(len(words))
                words.append(words[place] + (letter,))
                steps.append({})
        layer = longer
    return [words[place] for place in ends_of(program, steps)]


def tuples_up_to(letters, most):
    """How many tuples of up to so many of so many letters there are."""
    total = 1
    layer = 1
    for _ in range(most):
        layer = layer * letters
        total += layer
    return total


def never(program):
    """The ascending tuple of the procedures that have no word."""
    check_program(program)
    grammar = Grammar(program.procedures)
    words = with_words(grammar)
    return tuple([name for name in program.procedures if not words[grammar.numbers[(name,)]]])


def in_rings(program):
    """The ascending tuple of the procedures that call themselves, perhaps through others."""
    check_program(program)
    calls = {}
    for name, body in program.procedures.items():
        calls[name] = list(said_in(body, "call"))
    return tuple([name for name in program.procedures if name in called_from(calls, name)])


def called_from(calls, name):
    """The dict from all procedures that one calls, perhaps through others, to True."""
    called = {}
    waiting = list(calls[name])
    while waiting:
        other = waiting.pop()
        if other not in called:
            called[other] = True
            waiting.extend(calls[other])
    return called


def turned_about(program):
    """The program in which the parts of each "then" stand the other way about."""
    check_program(program)
    procedures = {}
    for name, body in program.procedures.items():
        procedures[name] = turned(body)
    return made_program(procedures, program.first)
