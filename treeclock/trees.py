"""Part trees, count trees and clocks: what is one, and the plain form of a tree."""


def is_part(thing):
    if is_whole(thing):
        return thing == 0 or thing == 1
    if not is_tuple_of(thing, 2) or are_same_number(thing[0], thing[1]):
        return False
    return is_part(thing[0]) and is_part(thing[1])


def is_count(thing):
    if is_whole(thing):
        return thing >= 0
    if not is_tuple_of(thing, 3) or not is_whole(thing[0]) or thing[0] < 0:
        return False
    # The halves come first: only of a count tree can the front be asked.
    return is_count(thing[1]) and is_count(thing[2]) and are_plain_halves(thing[1], thing[2])


def is_clock(thing):
    return is_tuple_of(thing, 2) and is_part(thing[0]) and is_count(thing[1])


def plain_part(tree):
    if is_whole(tree):
        return tree
    # From below upwards, since halves made plain can become the same number.
    return plain_pair(plain_part(tree[0]), plain_part(tree[1]))


def plain_pair(one, other):
    return one if are_same_number(one, other) else (one, other)


def plain_count(tree):
    if is_whole(tree):
        return tree
    # From below upwards, since halves made plain can get a higher front.
    return plain_triple(tree[0], plain_count(tree[1]), plain_count(tree[2]))


def plain_triple(number, one, other):
    shared = min(front(one), front(other))
    if are_same_number(one, other):
        return number + shared
    return (number + shared, lifted(one, -shared), lifted(other, -shared))


def front(count):
    return count if is_whole(count) else count[0]


def lifted(count, by):
    if is_whole(count):
        return count + by
    return (count[0] + by, count[1], count[2])


def are_plain_halves(one, other):
    return not are_same_number(one, other) and min(front(one), front(other)) == 0


def are_same_number(one, other):
    return is_whole(one) and one == other


def is_whole(thing):
    # Python counts truths among the ints; the document doesn't.
    return isinstance(thing, int) and not isinstance(thing, bool)


def is_tuple_of(thing, size):
    return isinstance(thing, tuple) and len(thing) == size
