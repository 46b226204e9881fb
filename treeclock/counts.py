"""Counts: whether one is at most another, the highest of two, and one raised within a part."""

from treeclock.errors import NotApart
from treeclock.trees import front, is_whole, lifted, plain_count, plain_part, plain_triple


def is_at_most(one, other):
    # Each field has one plain tree: equal trees tell that one adds nothing.
    return highest(one, other) == plain_count(other)


def highest(one, other):
    if is_whole(one) and is_whole(other):
        return max(one, other)
    shared = min(front(one), front(other))
    first = highest(half_beyond(one, 1, shared), half_beyond(other, 1, shared))
    second = highest(half_beyond(one, 2, shared), half_beyond(other, 2, shared))
    return plain_triple(shared, first, second)


def half_beyond(count, side, shared):
    rest = front(count) - shared
    return rest if is_whole(count) else lifted(count[side], rest)


def raised(count, part):
    own = plain_part(part)
    if own == 0:
        raise NotApart("in the part 0 there is nothing to raise")
    before = plain_count(count)
    # A raise that evens counts out makes the tree smaller, so it is tried first.
    after = evened(before, own)
    return after if after != before else grown(before, own)[1]


def evened(count, part):
    if part == 0 or is_whole(count):
        return count
    if part == 1:
        return peak(count)
    one = evened(count[1], part[0])
    other = evened(count[2], part[1])
    # A half that is all the hand's own is one number now, and may rise to what
    # is counted on all of the other half: then more is told by the front.
    if part[0] == 1:
        one = max(one, front(other))
    if part[1] == 1:
        other = max(other, front(one))
    return plain_triple(count[0], one, other)


def peak(count):
    if is_whole(count):
        return count
    return count[0] + max(peak(count[1]), peak(count[2]))


def grown(count, part):
    # How many triples a raise adds goes along with its tree, so that the one that
    # adds the fewest can be taken.
    if part == 1:
        return (0, lifted(count, 1))
    if part[0] == 0:
        return grown_half(count, part, 1)
    if part[1] == 0:
        return grown_half(count, part, 0)
    return min([grown_half(count, part, 0), grown_half(count, part, 1)], key=triples_added)


def grown_half(count, part, side):
    added = 1 if is_whole(count) else 0
    triple = (count, 0, 0) if is_whole(count) else count
    below = grown(triple[side + 1], part[side])
    one = below[1] if side == 0 else triple[1]
    other = below[1] if side == 1 else triple[2]
    return (below[0] + added, plain_triple(triple[0], one, other))


def triples_added(found):
    return found[0]
