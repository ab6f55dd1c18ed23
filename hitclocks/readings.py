"""Readings that go on letter by letter, and what the rest may cost at each moment."""

from hitclocks.cases import check_case
from hitclocks.errors import BadPrices, Barred, NoBlock, NothingDone
from hitclocks.fronts import told_at
from hitclocks.kinds import is_list
from hitclocks.lines import added_pairs, worth_at
from hitclocks.memories import check_letter, check_word, negated, read_along, step_of
from hitclocks.prices import check_price, is_price
from hitclocks.programs import is_word_of
from hitclocks.rests import Rests
from hitclocks.stairs import least_of, rank_of

MOST_PRICES = 20
NO_PAIR = (0, 0)


def checked_rests(memory, program, start, goals, word, further):
    """The rests behind words; BadMemory and so on, BadWord, and TooMany for a word with so many letters more."""
    check_case(memory, program, start, goals)
    check_word(memory, word)
    rests = Rests(memory, program, start, goals)
    rests.check_room(len(word) + further)
    return rests


def is_open(memory, program, start, goals, word):
    """Whether a word is open."""
    return checked_rests(memory, program, start, goals, word, 0).is_open(word)


def rest_front(memory, program, start, goals, word):
    """The front of the pairs of all rests of a word."""
    rests = checked_rests(memory, program, start, goals, word, 0)
    rests.check_open(word)
    return rests.front(word)


def next_letters(memory, program, start, goals, word):
    """The ascending tuple of the letters with which a word is open."""
    rests = checked_rests(memory, program, start, goals, word, 1)
    rests.check_open(word)
    return rests.next_letters(word)


class Moment:
    """What a reading has come to: word, state, price, what is paid, and which deeds began the blocks that are open."""

    def __init__(self, spelled, place, asked, pair, value, begun):
        self.spelled = spelled
        self.place = place
        self.asked = asked
        self.pair = pair
        self.value = value
        self.blocks_begun = begun


class Reading:
    """Reads a program's word letter by letter; each deed can be taken back."""

    def __init__(self, memory, program, start, goals, price):
        check_case(memory, program, start, goals)
        check_price(price)
        self.memory = memory
        self.program = program
        self.start = start
        self.goals = goals
        self.rests = Rests(memory, program, start, goals)
        self.rests.check_room(0)
        self.rests.check_open(())
        self.cheap_rests = Rests(negated(memory), program, start, goals)
        self.deeds = []
        # The moment at first, and those behind each deed.
        self.moments = [Moment((), start, price, NO_PAIR, 0, ())]

    def __len__(self):
        return len(self.deeds)

    def __eq__(self, other):
        if not isinstance(other, Reading) or self.memory != other.memory or self.program != other.program:
            return False
        if self.start != other.start or self.goals != other.goals or self.deeds != other.deeds:
            return False
        return self.moments[0].asked == other.moments[0].asked

    def now(self):
        """The present moment."""
        return self.moments[-1]

    def put(self, deed, moment):
        """Takes down a deed and the moment behind it."""
        self.deeds.append(deed)
        self.moments.append(moment)

    def read(self, letter):
        """Reads a letter: the pair of its step."""
        check_letter(self.memory, letter)
        now = self.now()
        word = now.spelled + (letter,)
        self.rests.check_room(len(word))
        if not self.rests.is_open(word):
            raise Barred(letter)
        place, paid = step_of(self.memory, now.place, letter)
        value = now.value + worth_at(paid, now.asked)
        self.put(("read", letter), Moment(word, place, now.asked, added_pairs(now.pair, paid), value, now.blocks_begun))
        return paid

    def set_price(self, price):
        """Sets the price at which is paid from now on."""
        check_price(price)
        now = self.now()
        self.put(("price", price), Moment(now.spelled, now.place, price, now.pair, now.value, now.blocks_begun))

    def begin(self):
        """Begins a block."""
        self.put_block(("begin",), self.now().blocks_begun + (len(self.deeds),))

    def keep(self):
        """Closes the innermost block; what was done in it stays."""
        self.check_block()
        self.put_block(("keep",), self.now().blocks_begun[:-1])

    def drop(self):
        """Closes the innermost block and takes back all that was done since it began."""
        self.check_block()
        at = self.now().blocks_begun[-1]
        del self.deeds[at:]
        del self.moments[at + 1:]

    def check_block(self):
        """NoBlock unless one is open."""
        if not self.now().blocks_begun:
            raise NoBlock("no block is open")

    def put_block(self, deed, begun):
        """Takes down a deed that changes only which blocks are open."""
        now = self.now()
        self.put(deed, Moment(now.spelled, now.place, now.asked, now.pair, now.value, begun))

    def undo(self):
        """Takes back the last deed that stands."""
        if not self.deeds:
            raise NothingDone("no deed stands")
        self.deeds.pop()
        self.moments.pop()

    def word(self):
        """The letters that were read."""
        return self.now().spelled

    def state(self):
        """The state of the memory."""
        return self.now().place

    def price(self):
        """The present price."""
        return self.now().asked

    def paid(self):
        """The sum of the pairs of all steps."""
        return self.now().pair

    def paid_worth(self):
        """The sum of the worths of all steps, each at the price at which it was paid."""
        return self.now().value

    def blocks(self):
        """How many blocks are open."""
        return len(self.now().blocks_begun)

    def may_end(self):
        """Whether the word is one of the program's that leads to a goal."""
        return self.state() in self.goals and is_word_of(self.program, self.word())

    def letters(self):
        """The ascending tuple of the letters that can be read."""
        self.rests.check_room(len(self.word()) + 1)
        return self.rests.next_letters(self.word())

    def rest(self):
        """The front of the pairs of all rests."""
        return self.rests.front(self.word())

    def rest_least(self):
        """The front of the pairs of all rests, turned."""
        return self.cheap_rests.front(self.word())

    def log(self):
        """The list of the deeds that stand."""
        return list(self.deeds)

    def copy(self):
        """An independent reading with the same deeds."""
        made = Reading(self.memory, self.program, self.start, self.goals, self.moments[0].asked)
        made.rests = self.rests
        made.cheap_rests = self.cheap_rests
        made.deeds = list(self.deeds)
        made.moments = list(self.moments)
        return made

    def behind(self, word):
        """What a word would cost from here, and the front of the rests behind it; nothing is done."""
        check_word(self.memory, word)
        spelled = self.word() + word
        self.rests.check_room(len(spelled))
        many = self.rests.longest_open(spelled)
        if many < len(spelled):
            raise Barred(spelled[many])
        return (read_along(self.memory, self.state(), word)[1], self.rests.front(spelled))

    def most(self):
        """The greatest worth of a rest at the present price."""
        return told_at(self.rest(), self.price())

    def least(self):
        """The least worth of a rest at the present price."""
        told = told_at(self.rest_least(), self.price())
        return told if told == "endless" else -told

    def worths(self):
        """The dict from the choices to the worths of their dearest rests."""
        return self.told_by(self.rests)

    def told_by(self, rests):
        """The dict from the choices to the greatest worths of their rests, by these rests."""
        told = {}
        letters = self.letters()
        if self.may_end():
            told[None] = 0
        for letter in letters:
            paid = step_of(rests.memory, self.state(), letter)[1]
            most = told_at(rests.front(self.word() + (letter,)), self.price())
            told[letter] = most if most == "endless" else worth_at(paid, self.price()) + most
        return told

    def dearest_choices(self):
        """The list of the choices whose dearest rests have the greatest worth."""
        return greatest_choices(self.told_by(self.rests))

    def cheapest_choices(self):
        """The list of the choices whose cheapest rests have the least worth."""
        return greatest_choices(self.told_by(self.cheap_rests))

    def best_change(self, prices):
        """The price, of some and the present one, at which the greatest worth of a rest is least, and this worth."""
        if not is_list(prices) or not 1 <= len(prices) <= MOST_PRICES:
            raise BadPrices(None)
        for at, price in enumerate(prices):
            if not is_price(price):
                raise BadPrices(at)
        offered = [self.price()] + list(prices)
        told = [told_at(self.rest(), price) for price in offered]
        first = least_of(told)[0]
        return None if told[first] == "endless" else (offered[first], told[first])


def greatest_choices(told):
    """The list of the choices for which the greatest worth is told."""
    most = max([rank_of(worth) for worth in told.values()])
    return [choice for choice, worth in told.items() if rank_of(worth) == most]
