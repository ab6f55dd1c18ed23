"""What the entries of a tale tell, one after another."""

from hitclocks.bodies import bodies_in
from hitclocks.kinds import is_number, is_number_from, is_tagged, is_tuple_of
from hitclocks.memories import columns_of, is_state


class Told:
    """A run that an entry tells: its head, its two states, its pair, its length, and how often the gap is in it."""

    def __init__(self, head, start):
        self.head = head
        self.start = start
        self.end = start
        self.first = 0
        self.second = 0
        self.length = 0
        self.gaps = 0

    def follow(self, other):
        """Goes on by a run that begins where this one ended."""
        self.end = other.end
        self.first += other.first
        self.second += other.second
        self.length += other.length
        self.gaps += other.gaps


class Teller:
    """Judges the entries of one tale, in their order, and keeps what they tell."""

    def __init__(self, memory, program):
        self.memory = memory
        self.procedures = program.procedures
        self.columns = columns_of(memory)
        self.loops = {}
        self.runs = []
        for name, body in program.procedures.items():
            for path, here in bodies_in(body):
                if here[0] == "any":
                    self.loops[(name, path)] = here[1]

    def is_head(self, thing):
        """Whether any value is a head of the program."""
        if is_tuple_of(thing, 1):
            return isinstance(thing[0], str) and thing[0] in self.procedures
        if not is_tuple_of(thing, 2) or not isinstance(thing[0], str) or not isinstance(thing[1], tuple):
            return False
        for index in thing[1]:
            if not is_number(index):
                return False
        return thing in self.loops

    def take_gap(self, thing):
        """Takes any value as a gap; whether it is one."""
        if not is_tagged(thing, "gap", 4) or not self.is_head(thing[1]):
            return False
        if not is_state(self.memory, thing[2]) or not is_state(self.memory, thing[3]):
            return False
        run = Told(thing[1], thing[2])
        run.end = thing[3]
        run.gaps = 1
        self.runs.append(run)
        return True

    def take(self, thing):
        """Takes any value as the next entry; whether it is one."""
        if not is_tuple_of(thing, 3) or not self.is_head(thing[0]) or not is_state(self.memory, thing[1]):
            return False
        head, state, play = thing
        run = Told(head, state)
        if len(head) == 1:
            fits = self.follows(run, self.procedures[head[0]], (), play)
        else:
            fits = self.follows_loop(run, play)
        if fits:
            self.runs.append(run)
        return fits

    def follows_loop(self, run, play):
        """Whether a play is one of a loop from where the run ended; the run goes on by it."""
        if is_tagged(play, "end", 1):
            return True
        if not is_tagged(play, "more", 3):
            return False
        path = run.head[1] + (0,)
        return self.follows(run, self.loops[run.head], path, play[1]) and self.follows_entry(run, run.head, play[2])

    def follows_entry(self, run, head, number):
        """Whether a number is that of an entry of this head from where the run ended; the run goes on by it."""
        if not is_number_from(number, 0, len(self.runs) - 1):
            return False
        other = self.runs[number]
        if other.head != head or other.start != run.end:
            return False
        run.follow(other)
        return True

    def follows(self, run, body, path, play):
        """Whether a play is one of the body from where the run ended; the run goes on by it."""
        tag = body[0]
        if tag == "none":
            return is_tagged(play, "none", 1)
        if tag == "read":
            return is_tagged(play, "read", 1) and self.follows_letter(run, body[1])
        if tag == "call":
            return is_tagged(play, "call", 2) and self.follows_entry(run, (body[1],), play[1])
        if tag == "any":
            return is_tagged(play, "any", 2) and self.follows_entry(run, (run.head[0], path), play[1])
        if tag == "either":
            if not is_tagged(play, "either", 3) or not is_number_from(play[1], 0, len(body[1]) - 1):
                return False
            return self.follows(run, body[1][play[1]], path + (play[1],), play[2])
        if not is_tagged(play, tag, 2) or not isinstance(play[1], tuple):
            return False
        if tag == "times":
            return body[1] <= len(play[1]) <= body[2] and self.follows_rounds(run, body[3], path + (0,), play[1])
        return len(play[1]) == len(body[1]) and self.follows_parts(run, body[1], path, play[1])

    def follows_letter(self, run, letter):
        """Goes on by a letter, which is always possible."""
        place, a, b = self.memory.moves[run.end][self.columns[letter]]
        run.end = place
        run.first += a
        run.second += b
        run.length += 1
        return True

    def follows_rounds(self, run, body, path, plays):
        """Whether each play is one of the body; the run goes on by them."""
        for play in plays:
            if not self.follows(run, body, path, play):
                return False
        return True

    def follows_parts(self, run, parts, path, plays):
        """Whether each play is one of the part in its place; the run goes on by them."""
        for index, part in enumerate(parts):
            if not self.follows(run, part, path + (index,), plays[index]):
                return False
        return True


def runs_told(memory, program, thing, with_gap):
    """What the entries of any value tell, whether it is a tale (with a gap in front), and where not.

    The latter is None if it is no tuple of one or more items, otherwise the index of the first that is no entry.
    """
    teller = Teller(memory, program)
    if not isinstance(thing, tuple) or len(thing) == 0:
        return (teller.runs, False, None)
    for at, entry in enumerate(thing):
        fits = teller.take_gap(entry) if with_gap and at == 0 else teller.take(entry)
        if not fits:
            return (teller.runs, False, at)
    return (teller.runs, True, None)


def last_run(memory, program, thing, with_gap):
    """What the last entry tells if any value is a tale (with a gap in front); None if it is none."""
    runs, fits, _ = runs_told(memory, program, thing, with_gap)
    return runs[-1] if fits else None
