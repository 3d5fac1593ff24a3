"""The parts of a word that is done as a deed, and what comes of two words."""

from joinload.bits import field, signed, turned, wrapped

DEEDS = (
    "end", "tell", "put", "high", "add", "load", "store", "sum",
    "less", "both", "odd", "turn", "same", "under", "call", "go",
)


def deed_of(word):
    """Which deed it is, by its title."""
    return DEEDS[op_of(word)]


def op_of(word):
    """Which deed it is, from 0 to 15."""
    return field(word, 28, 4)


def a_of(word):
    """The number of the first register, from 0 to 7."""
    return field(word, 25, 3)


def b_of(word):
    """The number of the second register, from 0 to 7."""
    return field(word, 22, 3)


def c_of(word):
    """The number of the third register, from 0 to 7."""
    return field(word, 19, 3)


def n_of(word):
    """The plain number of the deed, from 0 to 65535."""
    return field(word, 0, 16)


def s_of(word):
    """The plain number as signed, from -32768 to 32767."""
    return signed(n_of(word), 16)


def near_of(word):
    """The way of a call, from -262144 to 262143."""
    return signed(field(word, 0, 19), 19)


def split_of(word):
    """The way of a same or an under, from -2048 to 2047: its lowest seven bits and its other five lie apart."""
    return signed(field(word, 0, 7) + 128 * field(word, 14, 5), 12)


def of_two_words(deed, first, second):
    """The word that comes of two words by sum, less, both, odd or turn."""
    if deed == "sum":
        return wrapped(first + second)
    if deed == "less":
        return wrapped(first - second)
    if deed == "both":
        return first & second
    if deed == "odd":
        return first ^ second
    return turned(first, second)
