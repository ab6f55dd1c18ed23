"""Papers of all kinds: whether any value is one by its form, and whether it holds."""

from hitclocks.bodies import bodies_of_heads, is_head_in
from hitclocks.grammars import Grammar
from hitclocks.kinds import is_ascending, is_tuple_of
from hitclocks.memories import is_state
from hitclocks.sums import Sums


def with_rank(steps, rank):
    """The steps that pay pairs of what these ones pay and a rank."""
    ranked = []
    for row in steps:
        answers = {}
        for letter, (place, paid) in row.items():
            answers[letter] = (place, (paid, rank))
        ranked.append(answers)
    return ranked


def is_paper_by_form(memory, program, thing, is_value):
    """Whether any value is an ascending tuple of triples, and a dict from others to what is_value takes."""
    if not is_tuple_of(thing, 2) or not isinstance(thing[0], tuple) or not isinstance(thing[1], dict):
        return False
    bodies = bodies_of_heads(program.procedures)
    for triple in thing[0]:
        if not is_triple(bodies, memory, triple):
            return False
    for triple, value in thing[1].items():
        if not is_triple(bodies, memory, triple) or not is_value(value):
            return False
    if not is_ascending(thing[0]):
        return False
    for triple in thing[0]:
        if triple in thing[1]:
            return False
    return True


def is_triple(bodies, memory, thing):
    """Whether any value is a triple of a head and two states."""
    if not is_tuple_of(thing, 3) or not is_head_in(thing[0], bodies):
        return False
    return is_state(memory, thing[1]) and is_state(memory, thing[2])


def are_kept(program, steps, empty, values):
    """Whether no production exceeds what a paper tells: these triples as nothing, these ones with pairs."""
    grammar = Grammar(program.procedures)
    without = {}
    for triple in empty:
        without.setdefault((grammar.numbers[triple[0]], triple[1]), []).append(triple[2])
    for head, state, _ in values:
        without.setdefault((grammar.numbers[head], state), [])
    rows = {}
    for (head, state), ends in without.items():
        rows[(head, state)] = row_of_paper(grammar.heads[head], state, ends, values, len(steps))
    sums = Sums(grammar, steps, rows)
    for (head, state), row in rows.items():
        if not is_row_kept(sums.production(head, state), row, len(steps)):
            return False
    return True


def row_of_paper(head, state, without, values, many):
    """What a paper tells of a head from a state: a dict from the ends that are not nothing, None for open."""
    row = {}
    for end in range(many):
        if end not in without:
            row[end] = values.get((head, state, end), None)
    return row


def is_row_kept(production, row, many):
    """Whether what is nothing or a value in a row is not exceeded by what the production can do."""
    for end in range(many):
        if end not in row and end in production:
            return False
        if end in row and row[end] is not None and end in production:
            if production[end] is None or production[end] > row[end]:
                return False
    return True
