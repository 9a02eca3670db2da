"""What several tests share: lines by name, crafts of parts, lists within lists, and numbers that look strewn."""

import copy

from swornhall.crafts import Craft

SPOTS = ("h0", "h1", "h2", "h3", "a0", "a1", "l0", "l1")
NOUGHTS = [0, 0, 0, 0, 0, 0, 0, 0, 0]


def line(constant=0, **factors):
    """The line with a constant and the factors told by name: of hands, asked and left."""
    for name in factors:
        if name not in SPOTS:
            raise KeyError(name)
    return [constant] + [factors.get(name, 0) for name in SPOTS]


def craft_of(deeds, needs=(), leaves=(), notes=None):
    notes = [[] for _ in deeds] if notes is None else notes
    return Craft(*copy.deepcopy([list(needs), list(leaves), list(deeds), list(notes)]))


def fields(craft):
    return [craft.needs, craft.leaves, craft.deeds, craft.notes]


def lists_in(value):
    found = [value] if isinstance(value, list) else []
    if isinstance(value, dict):
        value = list(value.values())
    if isinstance(value, Craft):
        value = tuple(fields(value))
    if isinstance(value, (list, tuple)):
        for part in value:
            found = found + lists_in(part)
    return found


def numbers_in(value):
    if isinstance(value, (list, tuple)):
        return [number for part in value for number in numbers_in(part)]
    return [] if value is None or isinstance(value, str) else [value]


def spoil(value):
    """Changes every list in a value, down to the lines."""
    for part in lists_in(value):
        part.append(10 ** 9 + 1)
        part[0] = "spoilt"


class Strewn:
    """Whole numbers that look strewn and are the same in each run."""

    def __init__(self, seed):
        self.state = seed * 2 + 1

    def below(self, bound):
        self.state = (self.state * 6364136223846793005 + 1442695040888963407) % 2 ** 64
        return (self.state >> 33) % bound

    def between(self, low, high):
        return low + self.below(high - low + 1)

    def one_of(self, choices):
        return choices[self.below(len(choices))]


def strewn_line(strewn, greatest, *spots):
    told = [0] * 9
    for spot in (0,) + spots:
        told[spot] = strewn.one_of((0, 0, 1, -1, strewn.between(-3, 3), strewn.between(-greatest, greatest)))
    return told


def strewn_deed(strewn, greatest, count):
    def own_line():
        return strewn_line(strewn, greatest, 1, 2, 3, 4, 5, 6)

    hand, low = strewn.below(4), strewn.between(-5, 5)
    taken = strewn.one_of([(one, other) for one in range(4) for other in range(4) if one != other])
    return strewn.one_of((
        ("set", hand, own_line()), ("part", hand, own_line(), strewn.one_of((1, 2, 3, 1000))),
        ("draw", hand, low, low + strewn.below(20)), ("turn", own_line(), strewn.between(0, count)),
        ("hold", own_line()), ("call", strewn.below(4), (strewn.below(4), strewn.below(4)), taken)))


def strewn_craft(strewn, greatest, most_lines=2):
    """A right craft that calls crafts 0 to 3; no number of its lines is beyond the greatest."""
    def lines(*spots):
        return [strewn_line(strewn, greatest, *spots) for _ in range(strewn.below(most_lines + 1))]

    count = strewn.between(1, 8)
    deeds = [strewn_deed(strewn, greatest, count) for _ in range(count)]
    return craft_of(deeds, lines(5, 6), lines(5, 6, 7, 8), [lines(1, 2, 3, 4, 5, 6) for _ in range(count)])
