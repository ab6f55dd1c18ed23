"""What the entries of a tale tell, one after another."""

from hitclocks.bodies import bodies_of_heads, is_head_in
from hitclocks.kinds import is_number_from, is_tagged, is_tuple_of
from hitclocks.memories import columns_of, is_state


class Told:
    """A run that an entry tells: its head, its two states, its pair, its length, and how often the gap is in it."""

    def __init__(self, head, start):
        self.head = head
        self.start = start
        self.end = start
        self.first = 0
        self.second = 0
        self.length = 0
        self.gaps = 0

    def follow(self, other):
        """Goes on by a run that begins where this one ended."""
        self.end = other.end
        self.first += other.first
        self.second += other.second
        self.length += other.length
        self.gaps += other.gaps


class Teller:
    """Judges the entries of one tale, in their order, and keeps what they tell."""

    def __init__(self, memory, program):
        self.memory = memory
        self.columns = columns_of(memory)
        self.bodies = bodies_of_heads(program.procedures)
        self.runs = []

    def take_gap(self, thing):
        """Takes any value as a gap; whether it is one."""
        if not is_tagged(thing, "gap", 4) or not is_head_in(thing[1], self.bodies):
            return False
        if not is_state(self.memory, thing[2]) or not is_state(self.memory, thing[3]):
            return False
        run = Told(thing[1], thing[2])
        run.end = thing[3]
        run.gaps = 1
        self.runs.append(run)
        return True

    def take(self, thing):
        """Takes any value as the next entry; whether it is one."""
        if not is_tuple_of(thing, 3) or not is_head_in(thing[0], self.bodies) or not is_state(self.memory, thing[1]):
            return False
        head, state, play = thing
        run = Told(head, state)
        fits = self.follows(run, (), play) if len(head) == 1 else self.follows_loop(run, play)
        if fits:
            self.runs.append(run)
        return fits

    def follows_loop(self, run, play):
        """Whether a play is one of a loop from where the run ended; the run goes on by it."""
        if is_tagged(play, "end", 1):
            return True
        if not is_tagged(play, "more", 3) or not self.follows(run, run.head[1] + (0,), play[1]):
            return False
        return self.follows_entry(run, run.head, play[2])

    def follows_entry(self, run, head, number):
        """Whether a number is that of an entry of this head from where the run ended; the run goes on by it."""
        if not is_number_from(number, 0, len(self.runs) - 1):
            return False
        other = self.runs[number]
        if other.head != head or other.start != run.end:
            return False
        run.follow(other)
        return True

    def follows(self, run, path, play):
        """Whether a play is one of the body of the run's head from where the run ended; the run goes on by it."""
        waiting = [(self.bodies[run.head], path, play)]
        while waiting:
            body, here, part_play = waiting.pop()
            if body[0] in ("none", "read", "call", "any"):
                if not self.follows_leaf(run, body, here, part_play):
                    return False
            else:
                parts = played_parts(body, here, part_play)
                if parts is None:
                    return False
                waiting.extend(parts[::-1])
        return True

    def follows_leaf(self, run, body, path, play):
        """As follows, of a body that is played without plays of parts."""
        tag = body[0]
        if tag == "none":
            return is_tagged(play, "none", 1)
        if tag == "read":
            return is_tagged(play, "read", 1) and self.follows_letter(run, body[1])
        head = (body[1],) if tag == "call" else (run.head[0], path)
        return is_tagged(play, tag, 2) and self.follows_entry(run, head, play[1])

    def follows_letter(self, run, letter):
        """Goes on by a letter, which is always possible."""
        place, a, b = self.memory.moves[run.end][self.columns[letter]]
        run.end = place
        run.first += a
        run.second += b
        run.length += 1
        return True


def played_parts(body, path, play):
    """The list of the parts that a play of a body plays, each with its path and its play; None if it is none."""
    tag = body[0]
    if tag == "either":
        if not is_tagged(play, "either", 3) or not is_number_from(play[1], 0, len(body[1]) - 1):
            return None
        return [(body[1][play[1]], path + (play[1],), play[2])]
    if not is_tagged(play, tag, 2) or not isinstance(play[1], tuple):
        return None
    if tag == "times":
        fits = body[1] <= len(play[1]) <= body[2]
        return [(body[3], path + (0,), part) for part in play[1]] if fits else None
    if len(play[1]) != len(body[1]):
        return None
    return [(part, path + (index,), play[1][index]) for index, part in enumerate(body[1])]


def runs_told(memory, program, thing, with_gap):
    """What the entries of any value tell, whether it is a tale (with a gap in front), and where not.

    The latter is None if it is no tuple of one or more items, otherwise the index of the first that is no entry.
    """
    teller = Teller(memory, program)
    if not isinstance(thing, tuple) or len(thing) == 0:
        return (teller.runs, False, None)
    for at, entry in enumerate(thing):
        fits = teller.take_gap(entry) if with_gap and at == 0 else teller.take(entry)
        if not fits:
            return (teller.runs, False, at)
    return (teller.runs, True, None)


def last_run(memory, program, thing, with_gap):
    """What the last entry tells if any value is a tale (with a gap in front); None if it is none."""
    runs, fits, _ = runs_told(memory, program, thing, with_gap)
    return runs[-1] if fits else None
