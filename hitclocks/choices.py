"""Which of several cases is best at a price, and what shows it."""

from hitclocks.cases import check_case, check_triples
from hitclocks.errors import BadCases, ClockError
from hitclocks.findings import Finding
from hitclocks.kinds import is_list, is_number_from, is_tuple_of
from hitclocks.lines import worth_at
from hitclocks.papers import holds, paper_of, shown_by
from hitclocks.prices import check_price
from hitclocks.pumps import gain_of
from hitclocks.searches import steps_at
from hitclocks.showings import pair_of_run
from hitclocks.stairs import MOST_BESIDE, least_of
from hitclocks.wholes import front_of_runs


def check_cases(cases):
    """BadCases unless it is a list of 1 to 12 cases."""
    if not is_list(cases) or not 1 <= len(cases) <= MOST_BESIDE:
        raise BadCases(None)
    for at, case in enumerate(cases):
        if not is_case(case):
            raise BadCases(at)


def is_case(thing):
    """Whether any value is a case."""
    if not is_tuple_of(thing, 4):
        return False
    memory, program, start, goals = thing
    try:
        check_case(memory, program, start, goals)
    except ClockError:
        return False
    return True


def check_room(cases):
    """TooMany(2000) if one of the cases has too many triples."""
    for memory, program, _, _ in cases:
        check_triples(memory, program)


def case_fronts(cases):
    """The list of the fronts of some cases."""
    check_cases(cases)
    check_room(cases)
    return [front_of_runs(memory, program, start, goals) for memory, program, start, goals in cases]


def plan(cases, price):
    """The index of the first best case, its paper, and what shows that no other one is better."""
    check_cases(cases)
    check_price(price)
    check_room(cases)
    findings = []
    for memory, program, start, goals in cases:
        findings.append(Finding(program, steps_at(memory, price), start, goals))
    mosts = [finding.greatest() for finding in findings]
    index = least_of(mosts)[0]
    if mosts[index] == "endless":
        return (index, None, [finding.pump() for finding in findings])
    others = [None] * len(findings)
    for at, finding in enumerate(findings):
        if mosts[index] is not None and at != index:
            others[at] = finding.pump() if mosts[at] == "endless" else finding.tale()
    return (index, paper_of(findings[index]), others)


def is_plan(cases, price, thing):
    """Whether any value is an index of a case, with what shows that no other one is better."""
    check_cases(cases)
    check_price(price)
    check_room(cases)
    if not is_tuple_of(thing, 3):
        return False
    index, paper, others = thing
    if not is_number_from(index, 0, len(cases) - 1) or not is_list(others) or len(others) != len(cases):
        return False
    if paper is None:
        return [case for case, item in zip(cases, others) if not is_pump_at(case, price, item)] == []
    memory, program, start, goals = cases[index]
    if not holds(memory, program, price, paper):
        return False
    most = shown_by(paper, program.first, start, goals)
    if most == "open":
        return False
    for at, case in enumerate(cases):
        if most is None or at == index:
            if others[at] is not None:
                return False
        elif not is_run_worth(case, price, others[at], most) and not is_pump_at(case, price, others[at]):
            return False
    return True


def is_pump_at(case, price, thing):
    """Whether any value is a pump of a case at a price."""
    memory, program, start, goals = case
    gained = gain_of(memory, program, start, goals, thing)
    return gained is not None and worth_at(gained, price) > 0


def is_run_worth(case, price, thing, number):
    """Whether any value is a tale of a run of a case that is worth at least a number."""
    memory, program, start, goals = case
    pair = pair_of_run(memory, program, start, goals, thing)
    return pair is not None and worth_at(pair, price) >= number
