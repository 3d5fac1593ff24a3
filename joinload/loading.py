"""Wholes loaded at a base."""

from joinload.errors import NoBase
from joinload.rules import rule_of


def loaded(whole, base):
    """The words of the whole by the places at which they stand, those that lean filled for this base."""
    refuse_no_base(whole, base)
    words_at = {}
    for place, words in whole[3]:
        for at, word in enumerate(words):
            words_at[base + place + at] = word
    for place, title, target in whole[4]:
        here = base + place
        words_at[here] = rule_of(title).filled(words_at[here], here, base + target)
    return words_at


def start_of(whole, base):
    """The place at which a machine begins."""
    refuse_no_base(whole, base)
    return base + whole[2]


def refuse_no_base(whole, base):
    """Refuses a base at which the whole does not fit."""
    step = whole[0]
    size = whole[1]
    if base < 1 or base % step != 0 or base + size >= 4294967296:
        raise NoBase(base)
