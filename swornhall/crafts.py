"""Crafts: what they swear, what they do, and what is due at their places."""

from swornhall.lines import bare, turned

# The places in a line of the factors that some lines must have nought.
HAND_SPOTS = (1, 2, 3, 4)
LEFT_SPOTS = (7, 8)

# What stands for each of the eight numbers where the left are the hands of their number.
LEFT_AS_HANDS = (0, 1, 2, 3, 4, 5, 0, 1)

MOST_LINES = 2
MOST_DEEDS = 8
LAST_HAND = 3
LAST_NUMBER = 99
GREATEST_BY = 1000
GREATEST = 1000000000


class Craft:
    # Every list is copied down to its numbers: what was handed in may be changed later.
    def __init__(self, needs, leaves, deeds, notes):
        self.needs = copied_lines(needs)
        self.leaves = copied_lines(leaves)
        self.deeds = [copied_deed(deed) for deed in deeds]
        self.notes = [copied_lines(lines) for lines in notes]


def copied_lines(lines):
    return [list(line) for line in lines]


def copied_deed(deed):
    return tuple([list(part) if isinstance(part, list) else part for part in deed])


def copied_craft(craft):
    return Craft(craft.needs, craft.leaves, craft.deeds, craft.notes)


def called_by(craft):
    return [deed[1] for deed in craft.deeds if deed[0] == "call"]


def right(craft):
    return oath_right(craft) and deeds_right(craft.deeds) and notes_right(craft)


def oath_right(craft):
    needs_right = lines_right(craft.needs, HAND_SPOTS + LEFT_SPOTS)
    return needs_right and lines_right(craft.leaves, HAND_SPOTS)


def deeds_right(deeds):
    count = len(deeds)
    return between(1, count, MOST_DEEDS) and all([deed_right(deed, count) for deed in deeds])


def notes_right(craft):
    as_many = len(craft.notes) == len(craft.deeds)
    return as_many and all([lines_right(lines, LEFT_SPOTS) for lines in craft.notes])


def lines_right(lines, nought_spots):
    return len(lines) <= MOST_LINES and all([line_right(line, nought_spots) for line in lines])


def line_right(line, nought_spots):
    small = all([small_enough(number) for number in line])
    return small and all([line[spot] == 0 for spot in nought_spots])


def deed_right(deed, last_place):
    kind = deed[0]
    if kind == "set":
        return hand_right(deed[1]) and line_right(deed[2], LEFT_SPOTS)
    if kind == "part":
        return hand_right(deed[1]) and line_right(deed[2], LEFT_SPOTS) and between(1, deed[3], GREATEST_BY)
    if kind == "draw":
        return hand_right(deed[1]) and range_right(deed[2], deed[3])
    if kind == "turn":
        return line_right(deed[1], LEFT_SPOTS) and between(0, deed[2], last_place)
    if kind == "hold":
        return line_right(deed[1], LEFT_SPOTS)
    return call_right(deed[1], deed[2], deed[3])


def range_right(low, high):
    return small_enough(low) and small_enough(high) and low <= high


def call_right(number, given, taken):
    hands = two_hands_right(given) and two_hands_right(taken)
    return hands and between(0, number, LAST_NUMBER) and taken[0] != taken[1]


def two_hands_right(hands):
    return len(hands) == 2 and all([hand_right(hand) for hand in hands])


def hand_right(hand):
    return between(0, hand, LAST_HAND)


def small_enough(number):
    return between(-GREATEST, number, GREATEST)


def between(low, number, high):
    return low <= number <= high


def due_at(craft, place):
    if place == len(craft.deeds):
        eight = [bare(i) for i in LEFT_AS_HANDS]
        return [turned(line, eight) for line in craft.leaves]
    # A place beyond the craft, or a deed without a list of notes, has nothing due and is not refused.
    if between(0, place, min(len(craft.deeds), len(craft.notes)) - 1):
        return copied_lines(craft.notes[place])
    return []
