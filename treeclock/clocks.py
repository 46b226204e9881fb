"""Clocks of hands: the first one, and what comes of deeds, sending, parting and meeting."""

from treeclock.counts import highest, is_at_most, raised
from treeclock.parts import halves, together


def first():
    return (1, 0)


def parted(clock):
    two = halves(clock[0])
    return ((two[0], clock[1]), (two[1], clock[1]))


def done(clock):
    return (clock[0], raised(clock[1], clock[0]))


def sent(clock):
    return (0, clock[1])


def met(one, other):
    return (together(one[0], other[0]), highest(one[1], other[1]))


def knows(one, other):
    return is_at_most(other[1], one[1])
