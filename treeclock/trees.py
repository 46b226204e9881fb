"""Part trees, count trees and clocks: what is one, and the plain form of a tree."""


def is_part(thing):
    if is_whole(thing):
        return thing == 0 or thing == 1
    if not is_tuple_of(thing, 2) or thing == (0, 0) or thing == (1, 1):
        return False
    return is_part(thing[0]) and is_part(thing[1])


def is_count(thing):
    if is_whole(thing):
        return thing >= 0
    if not is_tuple_of(thing, 3) or not is_whole(thing[0]) or thing[0] < 0:
        return False
    # The halves come first: only of a count tree can the front be asked.
    return is_count(thing[1]) and is_count(thing[2]) and are_plain_halves(thing[1], thing[2])


def is_clock(thing):
    return is_tuple_of(thing, 2) and is_part(thing[0]) and is_count(thing[1])


def plain_part(tree):
    if is_whole(tree):
        return tree
    # From below upwards, since halves made plain can become the same number.
    one = plain_part(tree[0])
    other = plain_part(tree[1])
    if is_whole(one) and one == other:
        return one
    return (one, other)


def plain_count(tree):
    if is_whole(tree):
        return tree
    # From below upwards, since halves made plain can get a higher front.
    one = plain_count(tree[1])
    other = plain_count(tree[2])
    shared = min(front(one), front(other))
    one = lowered(one, shared)
    other = lowered(other, shared)
    if one == 0 and other == 0:
        return tree[0] + shared
    return (tree[0] + shared, one, other)


def front(count):
    return count if is_whole(count) else count[0]


def lowered(count, by):
    if is_whole(count):
        return count - by
    return (count[0] - by, count[1], count[2])


def are_plain_halves(one, other):
    if one == 0 and other == 0:
        return False
    return front(one) == 0 or front(other) == 0


def is_whole(thing):
    # Python counts truths among the ints; the document doesn't.
    return isinstance(thing, int) and not isinstance(thing, bool)


def is_tuple_of(thing, size):
    return isinstance(thing, tuple) and len(thing) == size
