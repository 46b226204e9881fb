"""The text of a clock."""

from treeclock.errors import NoClock
from treeclock.trees import is_clock, is_whole


def written(clock):
    if not is_clock(clock):
        # The thing itself is not shown: Python refuses to show very long numbers.
        raise NoClock("only a pair of a plain part tree and a plain count tree is written")
    part = tree_text(clock[0])
    count = tree_text(clock[1])
    return f"{part} {count}"


def tree_text(tree):
    if is_whole(tree):
        return figures(tree)
    inner = ",".join([tree_text(branch) for branch in tree])
    return f"({inner})"


def figures(number):
    # In pieces of 60 figures, since Python's str refuses numbers of some thousand.
    piece = 10 ** 60
    texts = []
    rest = number
    while rest >= piece:
        texts.append(str(rest % piece).zfill(60))
        rest = rest // piece
    texts.append(str(rest))
    return "".join(reversed(texts))
