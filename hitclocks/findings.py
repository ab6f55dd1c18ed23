"""What a search finds of the runs of a program from a start to its goals."""

from hitclocks.grammars import Grammar
from hitclocks.records import NO_RECORD, tale_from
from hitclocks.searches import Search


class Finding:
    """The runs of the first procedure from a start, searched by what letters pay; early if one is endless.

    steps has for each state a dict from letters to the next state and a number that is paid.
    """

    def __init__(self, program, steps, start, goals):
        grammar = Grammar(program.procedures)
        self.goals = goals
        self.search = Search(grammar, steps)
        self.row = self.search.row_at(grammar.numbers[(program.first,)], start)
        self.search.grow([self.row.base + goal for goal in goals])

    def greatest(self):
        """The greatest worth of a run: None without runs, "endless" without a bound."""
        worths = [self.row.best[goal] for goal in self.goals if goal in self.row.best]
        if None in worths:
            return "endless"
        return max(worths) if worths else None

    def tale(self):
        """A tale of a run with the greatest worth, which is a number."""
        most = self.greatest()
        for goal in self.goals:
            if goal in self.row.best and self.row.best[goal] == most:
                return tale_from(self.search.records, self.row.runs[goal], NO_RECORD)
        return None

    def pump(self):
        """A way, a round that gains and a rest, there being an endless run."""
        records = self.search.records
        item = self.endless_item()
        way = []
        while not self.has_round(item):
            row = self.search.row_of(item)
            left, right, place = row.tops[item % self.search.many]
            way.append((item, left, right, place))
            item = records.subjects[right if place == 1 else left]
        row = self.search.row_of(item)
        end = item % self.search.many
        gap = records.put(item, NO_RECORD, NO_RECORD)
        lap = tale_from(records, records.chained(row.rounds[end], gap), gap)
        course = tale_from(records, records.chained(way, gap), gap) if way else lap
        return (course, lap, tale_from(records, row.runs[end], NO_RECORD))

    def endless_item(self):
        """The first item of the runs to a goal that is endless."""
        for goal in self.goals:
            if goal in self.row.best and self.row.best[goal] is None:
                return self.row.base + goal
        return None

    def has_round(self, item):
        """Whether an endless item has a round of its own."""
        return item % self.search.many in self.search.row_of(item).rounds

    def known(self):
        """The triples that the runs need, with their greatest worths, None for endless; and those without runs."""
        heads = self.search.grammar.heads
        worths = {}
        empty = []
        for row in self.search.rows.values():
            if row.symbol < len(heads):
                for end in range(self.search.many):
                    triple = (heads[row.symbol], row.origin, end)
                    if end in row.best:
                        worths[triple] = row.best[end]
                    else:
                        empty.append(triple)
        return (worths, empty)
