"""What a run told by a tale comes to on its way, however long it is."""

from hitclocks.bodies import bodies_of_heads
from hitclocks.errors import BadNumber, TooMany
from hitclocks.kinds import is_number, is_number_from
from hitclocks.leaves import needed_entries
from hitclocks.lines import AHEAD_OF_ALL, BEHIND_ALL, added_pairs, best_corners, greatest_worth, summed_corners
from hitclocks.lines import worth_at
from hitclocks.memories import columns_of
from hitclocks.prices import check_price
from hitclocks.tales import checked_runs

MOST_STRETCH = 2000
NO_PAIR = (0, 0)


class Walker:
    """Goes along the run of the last entry of a tale, by letters and by whole entries."""

    def __init__(self, memory, program, tale):
        self.runs = checked_runs(memory, program, tale, False)
        self.memory = memory
        self.columns = columns_of(memory)
        self.last = len(tale) - 1
        self.length = self.runs[self.last].length
        self.leaves = needed_entries(bodies_of_heads(program.procedures), tale, self.runs)

    def length_of_leaf(self, leaf):
        """How many letters a letter or an entry reads."""
        return 1 if isinstance(leaf, str) else self.runs[leaf].length

    def behind(self, state, pair, leaf):
        """The state and the pair behind a letter or an entry."""
        if isinstance(leaf, str):
            place, a, b = self.memory.moves[state][self.columns[leaf]]
            return (place, added_pairs(pair, (a, b)))
        run = self.runs[leaf]
        return (run.end, added_pairs(pair, (run.first, run.second)))

    def spot(self, at):
        """The state and the pair behind so many letters."""
        state, pair = self.runs[self.last].start, NO_PAIR
        waiting = self.leaves[self.last][::-1]
        while at > 0:
            leaf = waiting.pop()
            if self.length_of_leaf(leaf) <= at:
                at -= self.length_of_leaf(leaf)
                state, pair = self.behind(state, pair, leaf)
            else:
                waiting = self.leaves[leaf][::-1]
        return (state, pair)

    def stretch(self, low, high):
        """The letters from low on, up to high."""
        letters = []
        waiting = self.leaves[self.last][::-1]
        while len(letters) < high - low:
            leaf = waiting.pop()
            if self.length_of_leaf(leaf) <= low:
                low -= self.length_of_leaf(leaf)
                high -= self.length_of_leaf(leaf)
            elif isinstance(leaf, str):
                letters.append(leaf)
            else:
                waiting.extend(self.leaves[leaf][::-1])
        return tuple(letters)

    def peaks(self):
        """For each entry that is needed the corners of what its beginnings cost."""
        corners = {}
        for number, leaves in self.leaves.items():
            state, pair = self.runs[number].start, NO_PAIR
            met = (NO_PAIR,)
            for leaf in leaves:
                own = corners.get(leaf, (NO_PAIR,))
                met = best_corners(met + summed_corners(own, (pair,)), AHEAD_OF_ALL, BEHIND_ALL)
                state, pair = self.behind(state, pair, leaf)
            corners[number] = best_corners(met + (pair,), AHEAD_OF_ALL, BEHIND_ALL)
        return corners

    def first_above(self, price, number):
        """The least number of letters behind which more than a number is paid; None if there is none."""
        peaks = {}
        for entry, corners in self.peaks().items():
            peaks[entry] = greatest_worth(corners, price)
        if peaks[self.last] <= number:
            return None
        state, pair, at = self.runs[self.last].start, NO_PAIR, 0
        waiting = self.leaves[self.last][::-1]
        while worth_at(pair, price) <= number:
            leaf = waiting.pop()
            if leaf in peaks and worth_at(pair, price) + peaks[leaf] > number:
                waiting = self.leaves[leaf][::-1]
            else:
                at += self.length_of_leaf(leaf)
                state, pair = self.behind(state, pair, leaf)
        return at


def check_spot(walker, number):
    """BadNumber unless it is a number from 0 to the length of the run."""
    if not is_number_from(number, 0, walker.length):
        raise BadNumber("not a number from 0 to the length of the run")


def spot(memory, program, tale, at):
    """The state and the pair behind so many letters of the run of a tale."""
    walker = Walker(memory, program, tale)
    check_spot(walker, at)
    return walker.spot(at)


def stretch_told(memory, program, tale, low, high):
    """The letters of the run of a tale from low on, up to high."""
    walker = Walker(memory, program, tale)
    check_spot(walker, low)
    check_spot(walker, high)
    if low > high:
        raise BadNumber("low is above high")
    if high - low > MOST_STRETCH:
        raise TooMany(MOST_STRETCH)
    return walker.stretch(low, high)


def peak_told(memory, program, tale):
    """The front of what all beginnings of the run of a tale cost."""
    walker = Walker(memory, program, tale)
    return ("over", AHEAD_OF_ALL, BEHIND_ALL, walker.peaks()[walker.last])


def first_above(memory, program, tale, price, number):
    """The least number of letters of the run of a tale behind which more is paid at a price; None if there is none."""
    walker = Walker(memory, program, tale)
    check_price(price)
    if not is_number(number):
        raise BadNumber("not a number")
    return walker.first_above(price, number)
