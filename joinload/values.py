"""The values of the machine by names, and what comes of two of them.

A value is a word, ("at", piece, stretch, offset), a place in a stretch, or ("high", piece, stretch, offset), the
upper part of such a place.
"""

from joinload.bits import wrapped
from joinload.deeds import of_two_words
from joinload.errors import NoSense
from joinload.rules import rule_of


class WithFill:
    """A word with a fill, which is no value; title is the rule's, aimed the at value of what the fill aims at."""

    def __init__(self, word, title, aimed):
        self.word = word
        self.title = title
        self.aimed = aimed


def is_word(value):
    """Whether the value is a word."""
    return isinstance(value, int)


def is_at(value):
    """Whether the value is a place in a stretch."""
    return not is_word(value) and value[0] == "at"


def at_value(aimed):
    """The place (piece name, stretch, offset) as a value."""
    return ("at", aimed[0], aimed[1], wrapped(aimed[2]))


def high_value(value):
    """The upper part of an at value."""
    return ("high", value[1], value[2], value[3])


def copied_value(value):
    """The same value, as a tuple of its own where it is one."""
    return value if is_word(value) else (value[0], value[1], value[2], value[3])


def only_word(value):
    """The value, which must be a word."""
    if not is_word(value):
        raise NoSense("a place is no word")
    return value


def only_at(value):
    """The value, which must be a place in a stretch."""
    if not is_at(value):
        raise NoSense("no place in a stretch")
    return value


def moved_on(value, number):
    """The word or at value with the number added."""
    if is_word(value):
        return wrapped(value + number)
    if is_at(value):
        return ("at", value[1], value[2], wrapped(value[3] + number))
    raise NoSense("the upper part of a place is no place")


def in_one_stretch(first, second):
    """Whether the two values are places in the same stretch."""
    return is_at(first) and is_at(second) and first[1] == second[1] and first[2] == second[2]


def at_first(word, title, aimed):
    """What a word is at first whose fill, by the rule of this title, aims at a number or at a place."""
    if is_word(aimed):
        # By the rules that can aim at a number, nothing hangs on where the word stands.
        return rule_of(title).filled(word, 0, aimed)
    if title == "whole":
        return at_value(aimed)
    return WithFill(word, title, at_value(aimed))


def of_two_values(deed, first, second):
    """The value that comes of two by sum, less, both, odd or turn."""
    if is_word(first) and is_word(second):
        return of_two_words(deed, first, second)
    if deed == "sum" and is_word(second):
        return moved_on(first, second)
    if deed == "sum" and is_word(first):
        return moved_on(second, first)
    if deed == "less" and is_word(second):
        return moved_on(first, -second)
    if deed == "less" and in_one_stretch(first, second):
        return wrapped(first[3] - second[3])
    raise NoSense(f"there is no {deed} of these values")
