"""Trees and things for the tests, and what a tree tells, found without the program."""

from itertools import product

# Neither a part tree, nor a count tree, nor a clock, wherever it stands.
NOTHING_OF_OURS = (
    True, False, None, "", "0", "1", "01", "010", "(0,1)", "1 0",
    [], [0], [1], [0, 1], [1, 0], [0, 1, 0], [1, 0, 0], [(0, 1)], [[0, 1], 0],
    (), (0,), (1,), ((0, 1),), (0, 0, 0, 1), (0, 1, 0, 1), -1, -7, -(10 ** 30),
)

PLAIN_PARTS = (
    0, 1, (0, 1), (1, 0), ((0, 1), 0), ((0, 1), 1), (0, (1, 0)), (1, (0, 1)),
    ((0, 1), (0, 1)), ((1, 0), (0, 1)), (((0, 1), 1), (0, (1, 0))),
)

NOT_PLAIN_PARTS = (
    (0, 0), (1, 1), ((0, 0), 1), (0, (1, 1)), ((0, 1), (0, 0)), ((1, 1), (1, 0)),
    ((0, 0), (1, 1)), (((0, 1), (1, 1)), 0),
)

WRONG_PARTS = NOTHING_OF_OURS + NOT_PLAIN_PARTS + (
    2, 3, 10 ** 30, (0, 2), (2, 1), (2, 2), (0, -1), (-1, 1), (0, 1, 0), (1, 0, 0), (0, 0, 1),
    (True, 0), (0, True), (False, 1), (1, False), (True, False), (None, 1), (0, None),
    ("0", 1), (0, "1"), ([0, 1], 1), (0, [1, 0]), ((0,), 1), (0, ()), (0, (0, 1, 0)),
)

PLAIN_COUNTS = (
    0, 1, 2, 10, 10 ** 30, (0, 0, 1), (0, 1, 0), (5, 0, 3), (7, 3, 0), (10 ** 30, 0, 10 ** 30),
    (0, (0, 0, 1), 0), (0, 0, (0, 1, 0)), (0, (0, 0, 1), (0, 0, 1)), (2, (0, 1, 0), 9),
    (2, (4, 1, 0), 0), (0, 0, (4, 0, 1)), (1, (0, 1, 0), (3, 0, (0, 2, 0))),
)

NOT_PLAIN_COUNTS = (
    (0, 0, 0), (1, 0, 0), (9, 0, 0), (0, 1, 1), (0, 1, 2), (0, 2, 1), (3, 4, 5),
    (0, 1, (1, 0, 1)), (0, (2, 1, 0), 3), (0, (1, 0, 1), (1, 0, 1)),
    (0, (0, 0, 0), 1), (0, 1, (0, 0, 0)), (0, (0, 0, 0), (0, 0, 0)), (0, (0, 1, 1), 0), (0, 0, (4, 2, 3)),
)

WRONG_COUNTS = NOTHING_OF_OURS + NOT_PLAIN_COUNTS + (
    (0, 1), (1, 0), ((0, 1), 0), (-1, 0, 1), (-1, 1, 0), (0, -1, 0), (0, 0, -1), (0, -1, 1), (0, -1, -1),
    (True, 0, 1), (False, 0, 1), (0, True, 0), (0, 0, True), (0, False, 1), (0, 1, False), (0, False, False),
    (None, 0, 1), (0, None, 1), (0, 1, None), (0, None, None), ("0", 0, 1), (0, "0", 1), (0, 1, "0"),
    ([], 0, 1), ([0], 0, 1), (0, [0, 0, 1], 0), (0, 0, [0, 1, 0]), (0, 0, []), (0, [0], 1),
    ((), 0, 1), ((0,), 0, 1), ((0, 0, 1), 0, 1), (0, (), 1), (0, 1, ()), (0, (0,), 1), (0, 0, (0, 1)),
)


def deep_part(depth, bottom, sibling=0):
    """A part tree with bottom that many steps down, on changing sides."""
    tree = bottom
    for step in range(depth):
        beside = sibling if step == 0 else step // 2 % 2
        tree = (tree, beside) if step % 2 else (beside, tree)
    return tree


def deep_count(depth, bottom, sibling=0):
    """A count tree with bottom that many steps down, on changing sides."""
    tree = bottom
    for step in range(depth):
        beside = sibling if step == 0 else 0
        number = step % 12
        tree = (number, tree, beside) if step % 2 else (number, beside, tree)
    return tree


def all_parts(depth):
    """All part trees of that depth at most, plain or not."""
    if depth == 0:
        return [0, 1]
    return [0, 1] + list(product(all_parts(depth - 1), repeat=2))


def all_counts(depth, numbers):
    """All count trees of that depth at most, plain or not, of these numbers."""
    if depth == 0:
        return list(numbers)
    below = all_counts(depth - 1, numbers)
    return list(numbers) + list(product(numbers, below, below))


def branches(tree):
    """The two halves: the last two of a pair and of a triple."""
    return tree[-2:]


def leaf_ways(tree, way=()):
    """The ways from the top, half by half, to all numbers at the tree's ends."""
    if isinstance(tree, int):
        return [way]
    return [found for side in (0, 1) for found in leaf_ways(branches(tree)[side], way + (side,))]


def told_at(tree, way):
    """What the tree tells of the stretch at the end of that way, or None where it is told only of smaller ones."""
    total = 0
    for side in way:
        if isinstance(tree, int):
            return total + tree
        total += tree[0] if len(tree) == 3 else 0
        tree = branches(tree)[side]
    return total + tree if isinstance(tree, int) else None


def tell_the_same(one, other):
    """Whether both trees tell the same of all stretches, however small."""
    for way in leaf_ways(one) + leaf_ways(other):
        told = (told_at(one, way), told_at(other, way))
        # Where one tree goes deeper, its own ways hold the smaller stretches.
        if None not in told and told[0] != told[1]:
            return False
    return True


def field_of(tree, depth):
    """What the tree tells of all stretches of that depth, in a row."""
    return tuple(told_at(tree, way) for way in product((0, 1), repeat=depth))


def common_ways(*trees):
    """The ways to the stretches of which each tree tells one number; they are the whole field together."""
    ways = {way for tree in trees for way in leaf_ways(tree)}
    return sorted(way for way in ways if all(told_at(tree, way) is not None for tree in trees))


def rows_told(*trees):
    """What the trees tell, a row for each stretch of common_ways."""
    return [tuple(told_at(tree, way) for tree in trees) for way in common_ways(*trees)]


def rest_of(part):
    """The part tree of all that isn't in the part."""
    return 1 - part if isinstance(part, int) else (rest_of(part[0]), rest_of(part[1]))


def sided_part(depth, side, beside=0, bottom=1):
    """A part tree with bottom that many steps down, to one side all along."""
    tree = bottom
    for step in range(depth):
        tree = (beside, tree) if side else (tree, beside)
    return tree


def sided_count(depth, side, number=1, bottom=1):
    """A count tree with bottom that many steps down, to one side all along."""
    tree = bottom
    for step in range(depth):
        tree = (number, 0, tree) if side else (number, tree, 0)
    return tree


def drawn_part(draw, depth):
    """A drawn part tree, plain or not, of that depth at most."""
    if depth == 0 or draw.randrange(4) == 0:
        return draw.randrange(2)
    return (drawn_part(draw, depth - 1), drawn_part(draw, depth - 1))


def drawn_count(draw, depth, most=3):
    """A drawn count tree, plain or not, of that depth at most."""
    if depth == 0 or draw.randrange(4) == 0:
        return draw.randrange(most + 1)
    return (draw.randrange(most + 1), drawn_count(draw, depth - 1, most), drawn_count(draw, depth - 1, most))


def text_of(tree):
    """How the document writes a tree, plain or not, or a thing like one."""
    return repr(tree).replace(" ", "")


# Trees some thirty deep, to either side and on changing ones.
DEEP_PARTS = tuple(
    tree for depth in (29, 30, 31, 40)
    for tree in (
        deep_part(depth, 1), deep_part(depth, 0, 1), deep_part(depth - 1, (1, 0), 1),
        sided_part(depth, 0), sided_part(depth, 1), sided_part(depth, 0, 1, 0), sided_part(depth, 1, 1, 0),
        (sided_part(depth - 1, 1), sided_part(depth - 1, 0)), (sided_part(depth - 1, 0, 1, 0), deep_part(depth - 1, 1)),
    )
)

DEEP_COUNTS = tuple(
    tree for depth in (29, 30, 31, 40)
    for tree in (
        deep_count(depth, 1), deep_count(depth, 0, 5), deep_count(depth - 1, (3, 0, 10 ** 30)),
        sided_count(depth, 0), sided_count(depth, 1), sided_count(depth, 0, 0, 7), sided_count(depth, 1, 0, 10 ** 70),
        (2, sided_count(depth - 1, 1), sided_count(depth - 1, 0, 0)), (0, 0, deep_count(depth - 1, 2)),
    )
)
