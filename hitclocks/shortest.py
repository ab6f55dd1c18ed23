"""The shortest of the dearest runs, and the length beyond which nothing is dearer at any price."""

from hitclocks.cases import check_case, check_triples
from hitclocks.dearest import found
from hitclocks.errors import BadNumber, BadPaper, TooMany
from hitclocks.findings import Finding
from hitclocks.fronts import ENDLESS
from hitclocks.judging import are_kept, is_paper_by_form, with_rank
from hitclocks.kinds import is_number_from, is_pair
from hitclocks.memories import check_memory
from hitclocks.prices import amid, check_price
from hitclocks.programs import check_program_over, in_key_order
from hitclocks.records import NO_RECORD, tale_from
from hitclocks.searches import steps_at
from hitclocks.shorts import Shorts
from hitclocks.unders import bends
from hitclocks.wholes import whole

MOST_WORD = 2000


def is_endless_or_none(finding):
    """Whether the greatest worth that was found is no number."""
    return finding.greatest() is None or finding.greatest() == "endless"


def best_items(finding, shorts):
    """The list of the items of the runs to a goal with the greatest worth and, of these, the least length."""
    items = [finding.row.base + goal for goal in finding.goals if finding.row.base + goal in shorts.done]
    ranks = [(-finding.row.best[item % shorts.many], shorts.done[item][0]) for item in items]
    return [item for item, rank in zip(items, ranks) if rank == min(ranks)]


def shortest(memory, program, start, goals, price):
    """The greatest worth of a run, and the least length of such a run; None if the worth is no number."""
    return shortest_of(found(memory, program, start, goals, price))


def shortest_of(finding):
    """As shortest, of what was found."""
    if is_endless_or_none(finding):
        return None
    shorts = Shorts(finding.search, False, None)
    return shorts.worth_and_length(best_items(finding, shorts)[0])


def short_tale(memory, program, start, goals, price):
    """A tale whose last entry is a shortest one of the dearest runs; None if their worth is no number."""
    finding = found(memory, program, start, goals, price)
    if is_endless_or_none(finding):
        return None
    shorts = Shorts(finding.search, False, None)
    return tale_from(shorts.records, shorts.done[best_items(finding, shorts)[0]][2], NO_RECORD)


def first_word(memory, program, start, goals, price, most):
    """The first of the words of the shortest of the dearest runs; None if their worth is no number."""
    check_case(memory, program, start, goals)
    check_price(price)
    if not is_number_from(most, 0, MOST_WORD):
        raise BadNumber("not a number from 0 to 2000")
    check_triples(memory, program)
    return first_word_of(Finding(program, steps_at(memory, price), start, goals), most)


def first_word_of(finding, most):
    """As first_word, of what was found."""
    if is_endless_or_none(finding):
        return None
    shorts = Shorts(finding.search, False, None)
    items = best_items(finding, shorts)
    if shorts.done[items[0]][0] > most:
        raise TooMany(most)
    spelled = Shorts(finding.search, True, shorts.needed(items))
    return min([spelled.done[item][1] for item in items])


def is_short_paper(memory, program, price, thing):
    """Whether any value is a short paper that holds at a price."""
    check_memory(memory)
    check_program_over(memory, program)
    check_price(price)
    check_triples(memory, program)
    return holds_short(memory, program, price, thing)


def holds_short(memory, program, price, thing):
    """As is_short_paper, without checks of what it is for."""
    if not is_paper_by_form(memory, program, thing, is_pair):
        return False
    values = {}
    for triple, (paid, length) in thing[1].items():
        values[triple] = (paid, -length)
    return are_kept(program, with_rank(steps_at(memory, price), -1), thing[0], values)


def shown_short(memory, program, start, goals, price, paper):
    """What a short paper shows of the runs: None for none, "open", or a pair than which none of them is better."""
    check_case(memory, program, start, goals)
    check_price(price)
    check_triples(memory, program)
    if not holds_short(memory, program, price, paper):
        raise BadPaper("not a short paper that holds at the price")
    shown = []
    for goal in goals:
        triple = ((program.first,), start, goal)
        if triple in paper[1]:
            paid, length = paper[1][triple]
            shown.append((-paid, length))
        elif triple not in paper[0]:
            return "open"
    return (-min(shown)[0], min(shown)[1]) if shown else None


def short_paper(memory, program, start, goals, price):
    """A short paper that holds and shows just the shortest; None if the most is endless."""
    finding = found(memory, program, start, goals, price)
    if finding.greatest() == "endless":
        return None
    worths, empty = finding.known()
    shorts = Shorts(finding.search, False, None)
    grammar = finding.search.grammar
    pairs = {}
    for triple, paid in worths.items():
        if paid is not None:
            head, state, end = triple
            row = finding.search.row_at(grammar.numbers[head], state)
            pairs[triple] = (paid, shorts.done[row.base + end][0])
    return (tuple(sorted(empty)), in_key_order(pairs))


def corner_lengths(memory, program, start, goals):
    """For each corner of the whole front the least length of a run that has just this pair."""
    front = whole(memory, program, start, goals)
    if front is None or front == ENDLESS:
        return []
    lengths = []
    for price in prices_amid(front):
        lengths.append(shortest_of(Finding(program, steps_at(memory, price), start, goals))[1])
    return lengths


def prices_amid(front):
    """The list of prices at each of which another corner alone is best; the only one of a front at one price."""
    if front[0] == "at":
        return [front[1]]
    prices = bends(front)
    return [amid(prices[at], prices[at + 1]) for at in range(len(prices) - 1)]


def settles(memory, program, start, goals):
    """The length up to which runs cost, at each price with a bound, as much as all; None if there is no bound."""
    return max(corner_lengths(memory, program, start, goals), default=None)
