"""What kind of value a thing is; any value may be asked."""

LETTER_SIGNS = "ABCDEFGHIJKLMNOPQRSTUVWXYZabcdefghijklmnopqrstuvwxyz0123456789."
NAME_STARTS = "abcdefghijklmnopqrstuvwxyz"
NAME_SIGNS = "abcdefghijklmnopqrstuvwxyz0123456789."
LONGEST_SIGNS = 12


def is_number(thing):
    """Whether it is an int that is no bool."""
    return isinstance(thing, int) and not isinstance(thing, bool)


def is_number_from(thing, low, high):
    """Whether it is a number from low to high, both included."""
    return is_number(thing) and low <= thing <= high


def is_string_of(thing, signs):
    """Whether it is a string of 1 to 12 of these signs."""
    if not isinstance(thing, str) or not 1 <= len(thing) <= LONGEST_SIGNS:
        return False
    for sign in thing:
        if sign not in signs:
            return False
    return True


def is_letter(thing):
    """Whether it is a letter of some memory."""
    return is_string_of(thing, LETTER_SIGNS)


def is_name(thing):
    """Whether it is a name of a procedure."""
    return is_string_of(thing, NAME_SIGNS) and thing[0] in NAME_STARTS


def is_list(thing):
    """Whether it may stand where a list is expected."""
    return isinstance(thing, (list, tuple))


def is_tuple_of(thing, many):
    """Whether it is a tuple with so many items."""
    return isinstance(thing, tuple) and len(thing) == many


def is_tagged(thing, tag, many):
    """Whether it is a tuple with so many items, the first one this string."""
    return is_tuple_of(thing, many) and isinstance(thing[0], str) and thing[0] == tag


def is_pair(thing):
    """Whether it is a tuple of two numbers."""
    return is_tuple_of(thing, 2) and is_number(thing[0]) and is_number(thing[1])


def is_ascending(things):
    """Whether each of these numbers, strings or tuples is less than the next one."""
    for at in range(len(things) - 1):
        if not things[at] < things[at + 1]:
            return False
    return True


def is_row_of_letters(thing, most):
    """Whether it is an ascending tuple of 1 to most different letters."""
    if not isinstance(thing, tuple) or not 1 <= len(thing) <= most:
        return False
    for letter in thing:
        if not is_letter(letter):
            return False
    return is_ascending(thing)


def has_just_keys(table, names):
    """Whether the keys of a dict are just these strings, each one once."""
    if len(table) != len(names):
        return False
    for name in names:
        if name not in table:
            return False
    return True


def is_among(thing, letters):
    """Whether any value is one of these letters."""
    return isinstance(thing, str) and thing in letters


def is_tuple_among(thing, letters):
    """Whether any value is a tuple of some of these letters, in any order."""
    if not isinstance(thing, tuple):
        return False
    for letter in thing:
        if not is_among(letter, letters):
            return False
    return True
