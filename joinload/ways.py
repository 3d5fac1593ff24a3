"""The stretches that are reached from a root."""

from joinload.names import aims
from joinload.pieces import pieces_by_name


def reached(pieces, names, root):
    """For each reached stretch (key, by, at): the stretch ahead of it that aims at it, and by which word."""
    by_name = pieces_by_name(pieces)
    first = (root[0], root[1])
    ways = [(first, None, None)]
    seen = {first: True}
    done = 0
    while done < len(ways):
        by = ways[done][0]
        for key, at in keys_aimed_at(by_name[by[0]], by[1], names):
            if key not in seen:
                seen[key] = True
                ways.append((key, by, at))
        done += 1
    return ways


def keys_aimed_at(piece, number, names):
    """The stretches at which the fills of this stretch of the piece aim: (key, at), at being the fill's word."""
    fills = piece[1][number][3]
    aimed = aims(piece, names, fills)
    # A soft fill may aim at a number, which lies in no stretch.
    return [((place[0], place[1]), fill[0]) for fill, place in zip(fills, aimed) if not isinstance(place, int)]
