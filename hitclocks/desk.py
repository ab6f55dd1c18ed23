"""A desk: memories and programs under names, led by deeds, asked by lines."""

from hitclocks.errors import BadName, ClockError, NoName, NothingDone, TooMany
from hitclocks.kinds import is_name
from hitclocks.memories import Memory
from hitclocks.programs import Program, in_key_order
from hitclocks.questions import NAMED, answered, listed, question_in
from hitclocks.texts import memory_of, program_of


class Desk:
    """Memories and programs under names; each deed can be taken back."""

    def __init__(self):
        self.deeds = []
        self.standing = {}
        # For each deed what stood under its name ahead of it, None for nothing.
        self.stood = []

    def __eq__(self, other):
        return isinstance(other, Desk) and self.deeds == other.deeds

    def load(self, name, text):
        """Has what a text tells of stand under a name."""
        check_name(name)
        self.put(("load", name, text), thing_of(text))

    def drop(self, name):
        """Has nothing stand under a name any more."""
        check_name(name)
        if name not in self.standing:
            raise NoName(name)
        self.put(("drop", name), None)

    def put(self, deed, thing):
        """Takes down a deed and has a thing, or None for nothing, stand under its name."""
        self.stood.append(self.standing.get(deed[1], None))
        self.deeds.append(deed)
        self.stand(deed[1], thing)

    def stand(self, name, thing):
        """Has a thing, or None for nothing, stand under a name."""
        if thing is not None:
            self.standing[name] = thing
        elif name in self.standing:
            del self.standing[name]

    def undo(self):
        """Takes back the last deed that stands."""
        if not self.deeds:
            raise NothingDone("no deed stands")
        deed = self.deeds.pop()
        self.stand(deed[1], self.stood.pop())

    def log(self):
        """The list of the deeds that stand."""
        return list(self.deeds)

    def names(self):
        """The dict from the names to what stands there: "memory" or "program"."""
        sorts = {}
        for name, thing in in_key_order(self.standing).items():
            sorts[name] = "memory" if isinstance(thing, Memory) else "program"
        return sorts

    def copy(self):
        """An independent desk with the same deeds."""
        made = Desk()
        made.deeds = list(self.deeds)
        made.standing = {name: self.standing[name] for name in self.standing}
        made.stood = list(self.stood)
        return made

    def answer(self, line):
        """The answer to a line."""
        question = question_in(line)
        if question is None:
            return "unknown"
        word, asked = question
        if word == "names":
            return listed([name + " " + sort for name, sort in self.names().items()], ", ")
        values = []
        for sign, value in asked:
            if sign in NAMED:
                thing = self.standing.get(value, None)
                if not is_asked(sign, thing):
                    return "no " + value
                value = thing
            values.append(value)
        try:
            return answered(word, values)
        except TooMany:
            return "many"
        except ClockError:
            return "refused"


def check_name(name):
    """BadName unless it is a name."""
    if not is_name(name):
        raise BadName("not a name")


def thing_of(text):
    """The memory or the program of which a text tells."""
    if isinstance(text, str) and text.startswith("memory "):
        return memory_of(text)
    return program_of(text)


def is_asked(sign, thing):
    """Whether a thing, or None for nothing, is what a sign of a form asks for."""
    if sign == "m":
        return isinstance(thing, Memory)
    return isinstance(thing, Program) or sign == "t" and thing is not None
