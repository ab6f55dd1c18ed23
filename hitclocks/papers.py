"""Papers: numbers for triples that no production exceeds."""

from hitclocks.cases import check_case, check_triples
from hitclocks.dearest import found
from hitclocks.errors import BadPaper
from hitclocks.judging import are_kept, is_paper_by_form, with_rank
from hitclocks.kinds import is_number
from hitclocks.memories import check_memory
from hitclocks.prices import check_price
from hitclocks.programs import check_program_over, in_key_order
from hitclocks.searches import steps_at


def is_paper(memory, program, price, thing):
    """Whether any value is a paper that holds at a price."""
    check_memory(memory)
    check_program_over(memory, program)
    check_price(price)
    check_triples(memory, program)
    return holds(memory, program, price, thing)


def holds(memory, program, price, thing):
    """As is_paper, without checks of what it is for."""
    return holds_paying(memory, program, steps_at(memory, price), thing)


def holds_paying(memory, program, steps, thing):
    """Whether any value is a paper that holds by what letters pay, by their steps."""
    if not is_paper_by_form(memory, program, thing, is_number):
        return False
    values = {}
    for triple, number in thing[1].items():
        values[triple] = (number, 0)
    return are_kept(program, with_rank(steps, 0), thing[0], values)


def shown_most(memory, program, start, goals, price, paper):
    """What a paper shows of the runs: None for none, "open", or a number that none of them exceeds."""
    check_case(memory, program, start, goals)
    check_price(price)
    check_triples(memory, program)
    if not holds(memory, program, price, paper):
        raise BadPaper("not a paper that holds at the price")
    return shown_by(paper, program.first, start, goals)


def shown_by(paper, first, start, goals):
    """As shown_most, of a paper that holds."""
    shown = []
    for goal in goals:
        triple = ((first,), start, goal)
        if triple in paper[1]:
            shown.append(paper[1][triple])
        elif triple not in paper[0]:
            return "open"
    return max(shown) if shown else None


def paper(memory, program, start, goals, price):
    """A paper that holds and shows just the most; None if that is endless."""
    finding = found(memory, program, start, goals, price)
    if finding.greatest() == "endless":
        return None
    return paper_of(finding)


def paper_of(finding):
    """The paper of what a finding, to its end, knows: what is endless is left open."""
    worths, empty = finding.known()
    numbers = {}
    for triple, paid in worths.items():
        if paid is not None:
            numbers[triple] = paid
    return (tuple(sorted(empty)), in_key_order(numbers))
