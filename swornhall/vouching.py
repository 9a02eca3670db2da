"""Vouching: the duties of a craft, and the rows of weights that show them."""

from swornhall.crafts import called_by, copied_lines, due_at
from swornhall.errors import Unmet
from swornhall.lines import FACTORS, bare, summed, turned

# Where the asked and the news stand among the eight numbers of a duty.
ASKED_0 = 4
ASKED_1 = 5
NEW_0 = 6
NEW_1 = 7

# The wholes that the clerk tries.
WHOLES = (1, 2, 3, 4)


def duties(craft, crafts):
    for number in called_by(craft):
        if number not in crafts:
            raise Unmet(f"it calls craft {number}, which does not stand")
    told = first_duties(craft)
    for place in range(len(craft.deeds)):
        told.extend(deed_duties(craft, place, crafts))
    return told


def first_duties(craft):
    begun = eight_with({0: bare(ASKED_0), 1: bare(ASKED_1), 2: constant(0), 3: constant(0)})
    return each_from(all_turned(due_at(craft, 0), begun), craft.needs)


def deed_duties(craft, place, crafts):
    deed = craft.deeds[place]
    notes = due_at(craft, place)
    after = due_at(craft, place + 1)
    kind = deed[0]
    if kind == "set":
        return each_from(all_turned(after, eight_with({deed[1]: deed[2]})), notes)
    if kind == "part":
        return part_duties(deed, notes, after)
    if kind == "draw":
        return draw_duties(deed, notes, after)
    if kind == "turn":
        return turn_duties(deed[1], notes, due_at(craft, deed[2]), after)
    if kind == "hold":
        return each_from([deed[1]], notes) + each_from(after, notes + [deed[1]])
    return call_duties(deed, notes, after, crafts[deed[1]])


def part_duties(deed, notes, after):
    line = deed[2]
    by = deed[3]
    not_above = summed([line, bare(NEW_0)], [1, -by])
    greatest = summed([bare(NEW_0), constant(by - 1), line], [by, 1, -1])
    return each_from(all_turned(after, eight_with({deed[1]: bare(NEW_0)})), notes + [not_above, greatest])


def draw_duties(deed, notes, after):
    from_low = summed([bare(NEW_0), constant(deed[2])], [1, -1])
    to_high = summed([constant(deed[3]), bare(NEW_0)], [1, -1])
    return each_from(all_turned(after, eight_with({deed[1]: bare(NEW_0)})), notes + [from_low, to_high])


def turn_duties(line, notes, there, after):
    # Over whole numbers a line doesn't hold just where minus the line less 1 does.
    below_nought = summed([line, constant(1)], [-1, -1])
    return each_from(there, notes + [line]) + each_from(after, notes + [below_nought])


def call_duties(deed, notes, after, other):
    given = deed[2]
    taken = deed[3]
    giving = eight_with({ASKED_0: bare(given[0]), ASKED_1: bare(given[1])})
    taking = eight_with({taken[0]: bare(NEW_0), taken[1]: bare(NEW_1)})
    before = each_from(all_turned(other.needs, giving), notes)
    return before + each_from(all_turned(after, taking), notes + all_turned(other.leaves, giving))


def each_from(goals, hypotheses):
    # Each duty gets lines of its own: what is told of one may be changed without the others.
    return [(list(goal), copied_lines(hypotheses)) for goal in goals]


def all_turned(lines, eight):
    return [turned(line, eight) for line in lines]


def eight_with(changes):
    return [changes.get(i, bare(i)) for i in range(FACTORS)]


def constant(number):
    return [number] + [0] * FACTORS


def shows(duty, row):
    # The clerk tells None where he finds no row, and what he told may be handed in again.
    if row is None:
        return False
    goal = duty[0]
    hypotheses = duty[1]
    whole = row[0]
    weights = row[1]
    if whole < 1 or len(weights) != len(hypotheses) or any([weight < 0 for weight in weights]):
        return False
    rest = summed([goal] + hypotheses, [whole] + [-weight for weight in weights])
    return rest[0] > -whole and rest[1:] == [0] * FACTORS


def sought(duty):
    rows_of_weights = noughts_and_ones(len(duty[1]))
    for whole in WHOLES:
        for weights in rows_of_weights:
            if shows(duty, (whole, weights)):
                return (whole, weights)
    return None


def noughts_and_ones(count):
    # Lengthened at the end, so that the first weight changes fastest: it is the lowest bit.
    found = [[]]
    for bit in range(count):
        found = [weights + [0] for weights in found] + [weights + [1] for weights in found]
    return found
