"""What the document says of broken words, by its words: slow, and apart from the package."""

from itertools import combinations_with_replacement, product

from hitclocks.programs import Program
from reference import words_up_to


def put_at(word, gaps, letters):
    """The word with these letters put in at these ascending gaps."""
    found, ahead = (), 0
    for gap, some in zip(gaps, letters):
        found += word[ahead:gap] + some
        ahead = gap
    return found + word[ahead:]


def broken_pairs(program, intruder, count, most):
    """The set of pairs of a word and that word broken so often, of up to so many letters."""
    found = set()
    inner = words_up_to(intruder, most)[intruder.first]
    for word in words_up_to(program, most)[program.first]:
        for gaps in combinations_with_replacement(range(len(word) + 1), count):
            for letters in product(inner, repeat=count):
                if len(word) + sum(map(len, letters)) <= most:
                    found.add((word, put_at(word, gaps, letters)))
    return found


def swamped_words(words, inner, most):
    """The least set with these words in which each word of inner may come in anywhere, of up to so many letters."""
    found = set(words)
    waiting = list(words)
    while waiting:
        word = waiting.pop()
        for letters in inner:
            for gap in range(len(word) + 1):
                longer = word[:gap] + letters + word[gap:]
                if len(longer) <= most and longer not in found:
                    found.add(longer)
                    waiting.append(longer)
    return found


def reads_of(program):
    """The list of the reads (name, path) of a program, with their letters."""
    found = []

    def look(name, body, path):
        if body[0] == "read":
            found.append(((name, path), body[1]))
        for at, part in enumerate(parts(body)):
            look(name, part, path + (at,))

    for name, body in program.procedures.items():
        look(name, body, ())
    return found


def parts(body):
    if body[0] in ("then", "either"):
        return body[1]
    return {"times": body[3:], "any": body[1:]}.get(body[0], ())


def marked(program):
    """The program in which each read has a letter of its own, and the dict from these to places and letters."""
    names = {}
    for number, (place, letter) in enumerate(reads_of(program)):
        names["m" + str(number)] = (place, letter)
    places = {place: name for name, (place, _) in names.items()}

    def change(name, body, path):
        if body[0] == "read":
            return ("read", places[(name, path)])
        if body[0] in ("then", "either"):
            return (body[0], tuple(change(name, part, path + (at,)) for at, part in enumerate(body[1])))
        if body[0] in ("times", "any"):
            return body[:-1] + (change(name, body[-1], path + (0,)),)
        return body

    procedures = {name: change(name, body, ()) for name, body in program.procedures.items()}
    return Program(procedures, program.first), names


def pairs_at_place(program, intruder, place, most):
    """The set of pairs of a word and that word broken at a place, of up to so many letters."""
    found = set()
    inner = words_up_to(intruder, most)[intruder.first]
    with_marks, names = marked(program)
    for marks in words_up_to(with_marks, most)[program.first]:
        word = tuple(names[mark][1] for mark in marks)
        gaps = [gap for gap, mark in enumerate(marks) if names[mark][0] == place]
        for gap in [len(word)] if place == () else gaps:
            for letters in inner:
                if len(word) + len(letters) <= most:
                    found.add((word, put_at(word, (gap,), (letters,))))
    return found
