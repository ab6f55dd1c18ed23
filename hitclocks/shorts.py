"""Of the dearest runs that a search found, the shortest ones, and the first ones of these by their words."""

from heapq import heappop, heappush

from hitclocks.records import NO_RECORD, Records


class Shorts:
    """For each item that is not endless the least length of its dearest runs, and a record of such a run.

    Items are done in the order of their lengths, and of their words, if these are asked for: then a part is done
    before all that is done with it.
    """

    def __init__(self, search, with_words, wanted):
        self.search = search
        self.grammar = search.grammar
        self.many = search.many
        self.with_words = with_words
        # The dict from the items that are looked at to True; None for all.
        self.wanted = wanted
        self.records = Records(search.grammar, search.many)
        self.queue = []
        # For each item that is done its length, its word, and its record.
        self.done = {}
        for row in search.rows.values():
            self.begin(row)
        while self.queue:
            length, word, item, left, right = heappop(self.queue)
            if item not in self.done:
                self.done[item] = (length, word, self.records.put(item, left, right))
                self.spread(self.search.row_of(item), item)

    def begin(self, row):
        """Offers what a row can be done with from the beginning on."""
        if self.grammar.empties[row.symbol]:
            self.offer(row, row.origin, 0, (0, (), NO_RECORD), None)
        letter = self.grammar.letters[row.symbol]
        if letter is not None:
            place, paid = self.search.steps[row.origin][letter]
            self.offer(row, place, paid, (1, (letter,) if self.with_words else (), NO_RECORD), None)

    def offer(self, row, end, paid, one, other):
        """Takes a way to do an item, by one part or by two, if it is one of the dearest."""
        item = row.base + end
        if row.best[end] is None or row.best[end] != paid or item in self.done:
            return
        if self.wanted is not None and item not in self.wanted:
            return
        length, word, right = one[0], one[1], NO_RECORD
        if other is not None:
            length, word, right = length + other[0], word + other[1], other[2]
        heappush(self.queue, (length, word, item, one[2], right))

    def spread(self, row, item):
        """Offers all that is done with an item and with what was done before."""
        end = item % self.many
        paid = row.best[end]
        own = self.done[item]
        for whole in row.as_unit:
            self.offer(whole, end, paid, own, None)
        for whole in row.as_left:
            right = self.search.rows[self.grammar.pairs[whole.symbol][1] * self.many + end]
            for last, more in right.best.items():
                if right.base + last in self.done:
                    self.offer(whole, last, paid + more, own, self.done[right.base + last])
        for whole, left, mid in row.as_right:
            if left.base + mid in self.done:
                self.offer(whole, end, left.best[mid] + paid, self.done[left.base + mid], own)

    def needed(self, items):
        """The dict from the items that are parts of the shortest dearest runs of some items to True."""
        needed = {}
        waiting = list(items)
        while waiting:
            item = waiting.pop()
            if item not in needed:
                needed[item] = True
                for parts in self.ways(self.search.row_of(item), item % self.many):
                    lengths = [self.done[part][0] for part in parts]
                    worths = [self.search.row_of(part).best[part % self.many] for part in parts]
                    if (sum(worths), sum(lengths)) == self.worth_and_length(item):
                        waiting.extend(parts)
        return needed

    def worth_and_length(self, item):
        """The pair of the greatest worth and the least length of its runs."""
        return (self.search.row_of(item).best[item % self.many], self.done[item][0])

    def ways(self, row, end):
        """The list of the lists of items, all of them done, by which an item can be done."""
        found = []
        for symbol in self.grammar.units[row.symbol]:
            part = self.search.rows[symbol * self.many + row.origin]
            if part.base + end in self.done:
                found.append([part.base + end])
        if self.grammar.pairs[row.symbol] is not None:
            first, second = self.grammar.pairs[row.symbol]
            left = self.search.rows[first * self.many + row.origin]
            for mid in left.best:
                right = self.search.rows[second * self.many + mid]
                if left.base + mid in self.done and right.base + end in self.done:
                    found.append([left.base + mid, right.base + end])
        return found
