"""Words of 32 bits, bit 0 the lowest, and their fields."""

WORD_BITS = 32
WORD_COUNT = 4294967296


def wrapped(number):
    """The word that differs from the number by a multiple of 4294967296."""
    return number % WORD_COUNT


def field(word, low, many):
    """The many bits of the word from bit low on, as a number from 0 on."""
    return moved(word, -low) & ones(many)


def with_field(word, low, many, number):
    """The word with the lowest many bits of the number put in from bit low on."""
    others = word & ~moved(ones(many), low)
    return wrapped(others | moved(number & ones(many), low))


def signed(number, many):
    """The number read by its lowest many bits, the highest of which counts below 0."""
    half = moved(1, many - 1)
    return ((number + half) & ones(many)) - half


def turned(word, by):
    """The word turned to the right."""
    right = by % WORD_BITS
    return wrapped((word >> right) | (word << (WORD_BITS - right)))


# Python refuses to shift by a number below 0. A low or a many that lies a little
# out of bounds must not be refused, so the two below take every whole number.


def ones(many):
    """The number whose lowest many bits are set, and no others."""
    return (1 << max(many, 0)) - 1


def moved(number, up):
    """The number with its bits moved up; down where up is below 0."""
    if up < 0:
        return number >> -up
    return number << up
