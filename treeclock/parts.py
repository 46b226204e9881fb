"""Parts of the field: whether they are apart, put together, and halved."""

from treeclock.errors import NotApart
from treeclock.trees import is_whole, plain_pair, plain_part


def are_apart(one, other):
    if one == 0 or other == 0:
        return True
    if one == 1 and other == 1:
        return False
    # A tree that isn't plain may tell nothing of a stretch and yet be no 0.
    return are_apart(half(one, 0), half(other, 0)) and are_apart(half(one, 1), half(other, 1))


def together(one, other):
    if not are_apart(one, other):
        raise NotApart("the two parts have something in common")
    return joined(one, other)


def joined(one, other):
    if is_whole(one) and is_whole(other):
        return max(one, other)
    return plain_pair(joined(half(one, 0), half(other, 0)), joined(half(one, 1), half(other, 1)))


def half(part, side):
    return part if is_whole(part) else part[side]


def halves(part):
    return parted_in_two(plain_part(part))


def parted_in_two(part):
    if part == 0:
        return (0, 0)
    if part == 1:
        return ((1, 0), (0, 1))
    if part[0] == 0:
        below = parted_in_two(part[1])
        return ((0, below[0]), (0, below[1]))
    if part[1] == 0:
        below = parted_in_two(part[0])
        return ((below[0], 0), (below[1], 0))
    # Where both halves hold something, no tree has to get deeper.
    return ((part[0], 0), (0, part[1]))
