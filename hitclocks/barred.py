"""The first words of a program that a monitor does not let."""

from hitclocks.findings import Finding
from hitclocks.monitors import check_monitor, states_without
from hitclocks.programs import check_letters_among, check_program
from hitclocks.shortest import MOST_WORD, first_word_of


def first_barred(program, monitor):
    """The first of the shortest words of a program that a monitor does not let; None if it lets all."""
    check_program(program)
    check_monitor(monitor)
    check_letters_among(monitor.letters, program)
    steps = []
    for row in monitor.moves:
        answers = {}
        for letter, place in zip(monitor.letters, row):
            answers[letter] = (place, 0)
        steps.append(answers)
    barred = states_without(monitor.moves, monitor.lets)
    return first_word_of(Finding(program, steps, 0, barred), MOST_WORD)
