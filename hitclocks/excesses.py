"""What one memory costs more than another one along the same words, at all prices."""

from hitclocks.asking import by_asking
from hitclocks.errors import BadRing
from hitclocks.fronts import is_front, told_at
from hitclocks.kinds import has_just_keys, is_list, is_number, is_pair, is_tuple_among, is_tuple_of
from hitclocks.lines import added_pairs, worth_at
from hitclocks.memories import check_memory, columns_of, is_state
from hitclocks.pairings import NO_PAIR, Climb, ExcessAsker, Pairings
from hitclocks.prices import check_price, is_price
from hitclocks.programs import in_key_order
from hitclocks.showings import show_corners, show_gains, showing_corners, showing_gains
from hitclocks.sides import check_two
from hitclocks.wholes import critical_prices

KEYS = ("front", "potentials", "rings", "words")


def excess_front(one, other, state, against):
    """The front of what all words cost more in one memory than in another one."""
    check_two(one, other, state, against)
    asker = ExcessAsker(Pairings(one, other, [(state, against)]), [0])
    return by_asking(lambda price: asker.answer(price))


def beginnings(memory):
    """The front of what another beginning costs more, along all words."""
    check_memory(memory)
    pairs = [(s, t) for s in range(len(memory)) for t in range(len(memory))]
    asker = ExcessAsker(Pairings(memory, memory, pairs), list(range(len(pairs))))
    return by_asking(lambda price: asker.answer(price))


def is_potential(one, other, state, against, price, thing):
    """Whether any value is a potential at a price."""
    check_two(one, other, state, against)
    check_price(price)
    return is_potential_at(one, other, (state, against), price, thing)


def is_potential_at(one, other, begun, price, thing):
    """As is_potential, without checks of what it is for."""
    if not isinstance(thing, dict):
        return False
    for pair, number in thing.items():
        if not is_pair(pair) or not is_state(one, pair[0]) or not is_state(other, pair[1]):
            return False
        if not is_number(number) or number < 0:
            return False
    if begun not in thing:
        return False
    for pair, number in thing.items():
        if not is_enough(one, other, pair, number, price, thing):
            return False
    return True


def is_enough(one, other, pair, number, price, potential):
    """Whether the number at a pair is at least what each letter costs more, with the number behind it."""
    for (place, a, b), (follower, c, d) in zip(one.moves[pair[0]], other.moves[pair[1]]):
        if (place, follower) not in potential:
            return False
        if number < worth_at((a - c, b - d), price) + potential[(place, follower)]:
            return False
    return True


def excess_behind(one, other, begun, word):
    """The pair of states behind a word, and what it costs more."""
    columns = columns_of(one)
    first, second = begun
    paid = NO_PAIR
    for letter in word:
        first, a, b = one.moves[first][columns[letter]]
        second, c, d = other.moves[second][columns[letter]]
        paid = added_pairs(paid, (a - c, b - d))
    return ((first, second), paid)


def gain_told(one, other, begun, thing):
    """What its round costs more if any value is a ring; otherwise None."""
    if not is_tuple_of(thing, 2):
        return None
    for word in thing:
        if not is_tuple_among(word, one.letters):
            return None
    place, _ = excess_behind(one, other, begun, thing[0])
    end, gained = excess_behind(one, other, place, thing[1])
    return gained if thing[1] and end == place else None


def gain(one, other, state, against, ring):
    """What the round of a ring costs more."""
    check_two(one, other, state, against)
    gained = gain_told(one, other, (state, against), ring)
    if gained is None:
        raise BadRing("not a way and a round")
    return gained


def excess_showing(one, other, state, against):
    """The front of what all words cost more, with words, potentials and rings that show it."""
    check_two(one, other, state, against)
    pairings = Pairings(one, other, [(state, against)])
    asker = ExcessAsker(pairings, [0])
    front = by_asking(lambda price: asker.answer(price))
    return {
        "front": front,
        "potentials": [(price, potential_at(pairings, price)) for price in critical_prices(front)],
        "rings": showing_gains(front, asker.rings),
        "words": showing_corners(front, asker.words),
    }


def potential_at(pairings, price):
    """The potential of the greatest worths of words from each pair on."""
    climb = Climb(pairings, price)
    numbers = {}
    for pair, number in zip(pairings.pairs, climb.best):
        numbers[pair] = number
    return in_key_order(numbers)


def is_excess_showing(one, other, state, against, thing):
    """Whether any value is a showing of what all words cost more."""
    check_two(one, other, state, against)
    if not isinstance(thing, dict) or not has_just_keys(thing, KEYS) or not is_front(thing["front"]):
        return False
    for key in KEYS[1:]:
        if not is_list(thing[key]):
            return False
    begun = (state, against)
    front = thing["front"]
    if not show_gains(front, [gain_told(one, other, begun, ring) for ring in thing["rings"]]):
        return False
    words = [excess_told(one, other, begun, word) for word in thing["words"]]
    prices = critical_prices(front)
    if not show_corners(front, words) or len(thing["potentials"]) != len(prices):
        return False
    for price, item in zip(prices, thing["potentials"]):
        if not is_potential_shown(one, other, begun, front, price, item):
            return False
    return True


def excess_told(one, other, begun, thing):
    """What any value costs more if it is a word; otherwise None."""
    return excess_behind(one, other, begun, thing)[1] if is_tuple_among(thing, one.letters) else None


def is_potential_shown(one, other, begun, front, price, thing):
    """Whether any value is the price with a potential whose first number is what the front tells there."""
    if not is_tuple_of(thing, 2) or not is_price(thing[0]) or thing[0] != price:
        return False
    return is_potential_at(one, other, begun, price, thing[1]) and thing[1][begun] == told_at(front, price)
