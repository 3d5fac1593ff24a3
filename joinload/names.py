"""The names that pieces tell and want, and the places that these stand for."""

from joinload.bits import wrapped
from joinload.errors import Twice, Unmet


def tells(piece):
    """The names that the piece tells to all others, sorted."""
    return sorted(set([name for name, sort, stretch, offset in piece[2] if sort != "own"]))


def wants(piece):
    """The names that the piece wants of itself or others, sorted."""
    own = places_told(piece, "own")
    wanted = {}
    for kind, step, words, fills in piece[1]:
        for at, rule, name, add, soft in fills:
            if not soft and name not in own:
                wanted[name] = True
    return sorted(wanted)


def names_of(pieces):
    """The places that the names told among the pieces stand for, by names."""
    ordered = sorted(pieces, key=lambda piece: piece[0])
    refuse_twice(ordered)
    names = {}
    # Turned round, since a later place goes over an earlier one: the least piece's over the others', strong over weak.
    for sort in ("weak", "tell"):
        for piece in reversed(ordered):
            names.update(places_told(piece, sort))
    return names


def refuse_twice(ordered):
    """Refuses pieces, sorted by their names, of which two tell the same name strongly."""
    tellers = {}
    for piece in ordered:
        for name in places_told(piece, "tell"):
            tellers.setdefault(name, []).append(piece[0])
    twice = [name for name in tellers if len(tellers[name]) > 1]
    if twice:
        least = min(twice)
        raise Twice(least, tellers[least][0], tellers[least][1])


def aim(piece, names, fill):
    """The place that a fill of the piece aims at, or the number where a soft one has no place."""
    return aims(piece, names, [fill])[0]


def aims(piece, names, fills):
    """What these fills of the piece aim at, in their order."""
    # Once for all of them, since a piece may have many own names and a stretch many fills.
    own = places_told(piece, "own")
    return [aim_by(piece[0], own, names, fill) for fill in fills]


def aim_by(piece_name, own, names, fill):
    """What a fill of the piece of this name aims at, own being the places of the piece's own names."""
    name = fill[2]
    add = fill[3]
    soft = fill[4]
    place = own.get(name, names.get(name))
    if place is not None:
        return (place[0], place[1], place[2] + add)
    if soft:
        return wrapped(add)
    raise Unmet(name, piece_name)


def places_told(piece, told_by):
    """The places of the names that the piece tells by this sort, by names."""
    places = {}
    for name, sort, stretch, offset in piece[2]:
        if sort == told_by:
            places[name] = (piece[0], stretch, offset)
    return places
