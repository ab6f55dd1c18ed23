"""Tales: runs told by choices, in lists of entries that name earlier ones."""

from hitclocks.errors import BadNumber, BadTale, TooMany
from hitclocks.kinds import is_number_from
from hitclocks.memories import check_memory
from hitclocks.programs import check_program_over
from hitclocks.telling import runs_told

MOST_TOLD = 2000


def checked_runs(memory, program, tale, with_gap):
    """What the entries tell; the errors of told."""
    check_memory(memory)
    check_program_over(memory, program)
    runs, fits, at = runs_told(memory, program, tale, with_gap)
    if not fits:
        raise BadTale(at)
    return runs


def told(memory, program, tale):
    """The list of the ends and pairs of the entries."""
    return [(run.end, (run.first, run.second)) for run in checked_runs(memory, program, tale, False)]


def is_tale(memory, program, thing):
    """Whether any value is a tale."""
    check_memory(memory)
    check_program_over(memory, program)
    return runs_told(memory, program, thing, False)[1]


def length_of(memory, program, tale):
    """How many letters the last entry reads."""
    return checked_runs(memory, program, tale, False)[-1].length


def told_gap(memory, program, tale):
    """The list of the ends, pairs and counts of the entries of a gap tale, the gap's first."""
    return [(run.end, (run.first, run.second), run.gaps) for run in checked_runs(memory, program, tale, True)]


def word_told(memory, program, tale, most):
    """The word that the last entry reads, of up to so many letters."""
    runs = checked_runs(memory, program, tale, False)
    if not is_number_from(most, 0, MOST_TOLD):
        raise BadNumber("not a number from 0 to 2000")
    if runs[-1].length > most:
        raise TooMany(most)
    words = {}
    for number in needed_entries(tale, runs):
        words[number] = word_of_entry(program, tale[number], words)
    return words[len(tale) - 1]


def needed_entries(tale, runs):
    """The ascending list of the entries with letters that the last one needs, and of the last one."""
    needed = {len(tale) - 1: True}
    waiting = [len(tale) - 1]
    while waiting:
        entry = tale[waiting.pop()]
        for number in named_in(entry[2]):
            if number not in needed and runs[number].length > 0:
                needed[number] = True
                waiting.append(number)
    return sorted(needed)


def named_in(play):
    """The list of the numbers of entries that stand in a play, from left to right."""
    tag = play[0]
    if tag == "any" or tag == "call":
        return [play[1]]
    if tag == "more":
        return named_in(play[1]) + [play[2]]
    if tag == "either":
        return named_in(play[2])
    named = []
    if tag == "then" or tag == "times":
        for part in play[1]:
            named.extend(named_in(part))
    return named


def word_of_entry(program, entry, words):
    """The letters that an entry reads; those of earlier entries are known, if they have any."""
    head, _, play = entry
    body = program.procedures[head[0]]
    letters = []
    if len(head) == 1:
        put_letters(letters, body, play, words)
    elif play[0] == "more":
        for index in head[1]:
            body = part_at(body, index)
        put_letters(letters, part_at(body, 0), play[1], words)
        letters.extend(words.get(play[2], ()))
    return tuple(letters)


def part_at(body, index):
    """The part of a body with this index."""
    return body[1][index] if body[0] in ("then", "either") else body[-1]


def put_letters(letters, body, play, words):
    """Puts the letters that a play of a body reads behind a list."""
    tag = play[0]
    if tag == "read":
        letters.append(body[1])
    elif tag == "any" or tag == "call":
        letters.extend(words.get(play[1], ()))
    elif tag == "either":
        put_letters(letters, body[1][play[1]], play[2], words)
    elif tag == "then":
        for part, part_play in zip(body[1], play[1]):
            put_letters(letters, part, part_play, words)
    elif tag == "times":
        for part_play in play[1]:
            put_letters(letters, body[3], part_play, words)
