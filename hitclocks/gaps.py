"""Words that come in at the gaps of other words, and pieces that are taken out."""

from hitclocks.errors import BadBreaks, BadPieces, BadWord
from hitclocks.kinds import is_letter, is_list, is_number_from, is_pair, is_tuple_of


def is_word(thing):
    """Whether any value is a tuple of letters."""
    if not isinstance(thing, tuple):
        return False
    for letter in thing:
        if not is_letter(letter):
            return False
    return True


def check_letters(word):
    """BadWord unless it is a tuple of letters."""
    if not is_word(word):
        raise BadWord("not a tuple of letters")


def put_in(word, breaks):
    """The word with other words put in at gaps."""
    check_letters(word)
    if not is_list(breaks):
        raise BadBreaks(None)
    told = ()
    ahead = 0
    for at, item in enumerate(breaks):
        if not is_tuple_of(item, 2) or not is_number_from(item[0], ahead, len(word)) or not is_word(item[1]):
            raise BadBreaks(at)
        told += word[ahead:item[0]] + item[1]
        ahead = item[0]
    return told + word[ahead:]


def taken_out(word, pieces):
    """What is left of a word without some pieces, and the breaks that put them back."""
    check_letters(word)
    if not is_list(pieces):
        raise BadPieces(None)
    rest = ()
    breaks = []
    ahead = 0
    for at, piece in enumerate(pieces):
        if not is_pair(piece) or piece[0] < ahead or piece[1] < 0 or piece[0] + piece[1] > len(word):
            raise BadPieces(at)
        rest += word[ahead:piece[0]]
        ahead = piece[0] + piece[1]
        breaks.append((len(rest), word[piece[0]:ahead]))
    return (rest + word[ahead:], breaks)
