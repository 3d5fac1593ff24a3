"""Stretches laid out one behind another."""

from joinload.pieces import pieces_by_name


def laid(pieces, keys):
    """The stretches of these keys with their places: (key, place), in the order in which they lie."""
    return [(key, place) for key, place, end in laid_with_ends(pieces, keys)]


def size_of(pieces, keys):
    """The end of the last stretch, 0 without any."""
    # The ends rise, since each stretch lies behind the one ahead.
    return max([end for key, place, end in laid_with_ends(pieces, keys)], default=0)


def step_of(pieces, keys):
    """The greatest step of the stretches, 1 without any."""
    by_name = pieces_by_name(pieces)
    return max([by_name[name][1][number][1] for name, number in keys], default=1)


def laid_with_ends(pieces, keys):
    """The stretches as they lie: (key, place, end)."""
    by_name = pieces_by_name(pieces)
    rows = []
    end = 0
    for key in in_order(by_name, keys):
        stretch = by_name[key[0]][1][key[1]]
        place = multiple_from(end, stretch[1])
        end = place + len(stretch[2])
        rows.append((key, place, end))
    return rows


def in_order(by_name, keys):
    """The keys in the order of laying: those of code, then those of data."""
    ordered = sorted([(name, number) for name, number in keys])
    code = [key for key in ordered if by_name[key[0]][1][key[1]][0] == "code"]
    data = [key for key in ordered if by_name[key[0]][1][key[1]][0] == "data"]
    return code + data


def multiple_from(number, step):
    """The least multiple of the step that is not below the number."""
    return (number + step - 1) // step * step
