"""Papers: numbers for triples that no production exceeds."""

from hitclocks.cases import check_case, check_triples
from hitclocks.dearest import found
from hitclocks.errors import BadPaper
from hitclocks.grammars import Grammar
from hitclocks.kinds import is_ascending, is_number, is_tuple_of
from hitclocks.memories import check_memory, is_state
from hitclocks.prices import check_price
from hitclocks.programs import check_program_over, in_key_order
from hitclocks.searches import steps_at
from hitclocks.sums import Sums
from hitclocks.telling import Teller


def is_paper(memory, program, price, thing):
    """Whether any value is a paper that holds at a price."""
    check_memory(memory)
    check_program_over(memory, program)
    check_price(price)
    check_triples(memory, program)
    return holds(memory, program, price, thing)


def holds(memory, program, price, thing):
    """As is_paper, without checks of what it is for."""
    if not is_paper_by_form(memory, program, thing):
        return False
    grammar = Grammar(program.procedures)
    rows = {}
    for triple in thing[0]:
        rows.setdefault((grammar.numbers[triple[0]], triple[1]), []).append(triple[2])
    for head, state, _ in thing[1]:
        rows.setdefault((grammar.numbers[head], state), [])
    for (head, state), empty in list(rows.items()):
        rows[(head, state)] = row_of_paper(grammar.heads[head], state, empty, thing[1], len(memory))
    sums = Sums(grammar, steps_at(memory, price), rows)
    for (head, state), row in rows.items():
        if not is_row_kept(sums.production(head, state), row, len(memory)):
            return False
    return True


def row_of_paper(head, state, empty, numbers, many):
    """What a paper tells of a head from a state: a dict from the ends that are not nothing, None for open."""
    row = {}
    for end in range(many):
        if end not in empty:
            row[end] = numbers.get((head, state, end), None)
    return row


def is_row_kept(production, row, many):
    """Whether what is nothing or a number in a row is not exceeded by what the production can do."""
    for end in range(many):
        if end not in row and end in production:
            return False
        if end in row and row[end] is not None and end in production:
            if production[end] is None or production[end] > row[end]:
                return False
    return True


def is_paper_by_form(memory, program, thing):
    """Whether any value is an ascending tuple of triples, and a dict from others to numbers."""
    if not is_tuple_of(thing, 2) or not isinstance(thing[0], tuple) or not isinstance(thing[1], dict):
        return False
    teller = Teller(memory, program)
    for triple in thing[0]:
        if not is_triple(teller, memory, triple):
            return False
    for triple, number in thing[1].items():
        if not is_triple(teller, memory, triple) or not is_number(number):
            return False
    if not is_ascending(thing[0]):
        return False
    for triple in thing[0]:
        if triple in thing[1]:
            return False
    return True


def is_triple(teller, memory, thing):
    """Whether any value is a triple of a head and two states."""
    if not is_tuple_of(thing, 3) or not teller.is_head(thing[0]):
        return False
    return is_state(memory, thing[1]) and is_state(memory, thing[2])


def shown_most(memory, program, start, goals, price, paper):
    """What a paper shows of the runs: None for none, "open", or a number that none of them exceeds."""
    check_case(memory, program, start, goals)
    check_price(price)
    check_triples(memory, program)
    if not holds(memory, program, price, paper):
        raise BadPaper("not a paper that holds at the price")
    return shown_by(paper, program.first, start, goals)


def shown_by(paper, first, start, goals):
    """As shown_most, of a paper that holds."""
    shown = []
    for goal in goals:
        triple = ((first,), start, goal)
        if triple in paper[1]:
            shown.append(paper[1][triple])
        elif triple not in paper[0]:
            return "open"
    return max(shown) if shown else None


def paper(memory, program, start, goals, price):
    """A paper that holds and shows just the most; None if that is endless."""
    finding = found(memory, program, start, goals, price)
    if finding.greatest() == "endless":
        return None
    return paper_of(finding)


def paper_of(finding):
    """The paper of what a finding, to its end, knows: what is endless is left open."""
    worths, empty = finding.known()
    numbers = {}
    for triple, paid in worths.items():
        if paid is not None:
            numbers[triple] = paid
    return (tuple(sorted(empty)), in_key_order(numbers))
