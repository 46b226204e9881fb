"""The clock of a text."""

from treeclock.errors import NoText
from treeclock.trees import are_plain_halves, are_same_number, is_count, is_part, is_whole

FIGURES = "0123456789"


def read(text):
    # Where no blank stands, the second text is empty, and no tree has that one.
    texts = text.partition(" ")
    part = tree_of(texts[0], is_part, is_plain_pair)
    count = tree_of(texts[2], is_count, is_plain_triple)
    return (part, count)


def tree_of(text, is_end, is_plain):
    # With a list of what is open, not by calls within calls: a text may open
    # more brackets than calls can go deep, and is still to be refused.
    opened = []
    place = 0
    while True:
        while sign_at(text, place) == "(":
            opened.append([])
            place = place + 1
        end = figures_end(text, place)
        tree = asked(number_of(text[place:end]), is_end)
        place = end
        while opened and sign_at(text, place) == ")":
            tree = asked(tuple(opened.pop() + [tree]), is_plain)
            place = place + 1
        if not opened:
            break
        if sign_at(text, place) != ",":
            raise NoText("a comma or a bracket is missing")
        opened[-1].append(tree)
        place = place + 1
    if place != len(text):
        raise NoText("something stands behind the end of a tree")
    return tree


def asked(tree, is_right):
    if not is_right(tree):
        raise NoText("a tree is none of its kind, or not plain")
    return tree


def is_plain_pair(branches):
    return len(branches) == 2 and not are_same_number(branches[0], branches[1])


def is_plain_triple(branches):
    return len(branches) == 3 and is_whole(branches[0]) and are_plain_halves(branches[1], branches[2])


def sign_at(text, place):
    # Behind the end there is the empty text, which is equal to no sign.
    return text[place:place + 1]


def figures_end(text, start):
    end = start
    while end < len(text) and text[end] in FIGURES:
        end = end + 1
    return end


def number_of(figures):
    if figures == "" or (figures[0] == "0" and figures != "0"):
        raise NoText("a number is missing, or has a nought ahead")
    # In pieces of 60 figures, since Python's int refuses texts of some thousand.
    first = len(figures) % 60
    number = int("0" + figures[:first])
    for start in range(first, len(figures), 60):
        number = number * 10 ** 60 + int(figures[start:start + 60])
    return number
