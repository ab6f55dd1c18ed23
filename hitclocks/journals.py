"""Journals: what a reading tells behind each of its deeds."""

from hitclocks.errors import BadJournal, BadReading, ClockError
from hitclocks.fronts import is_front
from hitclocks.kinds import is_list, is_number, is_pair, is_tagged, is_tuple_of
from hitclocks.readings import Reading


def journal_of(reading):
    """The list of the entries of a reading, one for each deed that stands."""
    if not isinstance(reading, Reading):
        raise BadReading("not a reading")
    entries = []
    for deed, moment in zip(reading.deeds, reading.moments[1:]):
        front = reading.rests.front(moment.spelled)
        entries.append((deed, moment.place, moment.pair, moment.value, front))
    return entries


def first_false(memory, program, start, goals, price, thing):
    """The index of the first entry of any value that is none of a reading; None if it is a journal."""
    return follow(Reading(memory, program, start, goals, price), thing)


def follow(reading, thing):
    """Does the deeds of any value up to the first entry that is none: the index of that; None if it is a journal."""
    if not is_list(thing):
        return 0
    for at, entry in enumerate(thing):
        if not is_tuple_of(entry, 5) or not is_done(reading, entry[0]) or not is_told(reading, entry):
            return at
    return None


def is_done(reading, deed):
    """Does any value if it is a deed that can be done; whether it is."""
    try:
        if is_tagged(deed, "read", 2):
            reading.read(deed[1])
        elif is_tagged(deed, "price", 2):
            reading.set_price(deed[1])
        elif is_tagged(deed, "begin", 1):
            reading.begin()
        elif is_tagged(deed, "keep", 1):
            reading.keep()
        else:
            return False
    except ClockError:
        return False
    return True


def is_told(reading, entry):
    """Whether what an entry has behind its deed is what the reading tells."""
    _, state, paid, worth, front = entry
    if not is_number(state) or not is_pair(paid) or not is_number(worth) or not is_front(front):
        return False
    if state != reading.state() or paid != reading.paid() or worth != reading.paid_worth():
        return False
    return front == reading.rest()


def replayed(memory, program, start, goals, price, journal):
    """The reading that has a journal."""
    reading = Reading(memory, program, start, goals, price)
    at = follow(reading, journal)
    if at is not None:
        raise BadJournal(at)
    return reading


def shortened(memory, program, start, goals, price, journal):
    """The journal of the reading that comes to the same without blocks and with the fewest changes of the price."""
    reading = replayed(memory, program, start, goals, price, journal)
    shorter = reading.copy()
    while len(shorter) > 0:
        shorter.undo()
    asked = price
    for deed in reading.log():
        if deed[0] == "price":
            asked = deed[1]
        elif deed[0] == "read":
            change_price(shorter, asked)
            shorter.read(deed[1])
    change_price(shorter, asked)
    return journal_of(shorter)


def change_price(reading, price):
    """Sets the price of a reading unless it is that already."""
    if reading.price() != price:
        reading.set_price(price)
