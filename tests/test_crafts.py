"""Points 1 and 4 to 7: Craft, right, due_at."""

import copy
import unittest

from helping import fields, lists_in
from swornhall.crafts import Craft, due_at, right
from swornhall.lines import worth

BILLION = 10 ** 9
SIGNS = (1, -1)

NEEDS = [[1, 0, 0, 0, 0, 1, -1, 0, 0], [-2, 0, 0, 0, 0, 0, 3, 0, 0]]
LEAVES = [[4, 0, 0, 0, 0, 5, -6, 7, -8], [-9, 0, 0, 0, 0, 0, 0, 0, 10]]
NOTE = [11, 1, -2, 3, -4, 5, -6, 0, 0]
PLAIN = [0, 0, 0, 0, 0, 0, 0, 0, 0]

# In each deed, the place of the line that it has, by its first word.
LINE_AT = {"set": 2, "part": 2, "turn": 1, "hold": 1}
DEEDS = [
    ("set", 0, [1, 1, 2, 3, 4, 5, 6, 0, 0]),
    ("part", 1, [2, -1, -2, -3, -4, -5, -6, 0, 0], 7),
    ("draw", 2, -5, 5),
    ("turn", [3, 0, 1, 0, 1, 0, 1, 0, 0], 6),
    ("hold", [4, 1, 0, 1, 0, 1, 0, 0, 0]),
    ("call", 5, (0, 1), (2, 3)),
]
NOTES = [[NOTE], [], [NOTE, PLAIN], [PLAIN], [NOTE], []]


def made(needs=(), leaves=(), deeds=None, notes=None):
    deeds = copy.deepcopy(DEEDS if deeds is None else deeds)
    notes = [[] for _ in deeds] if notes is None else copy.deepcopy(notes)
    return Craft(copy.deepcopy(list(needs)), copy.deepcopy(list(leaves)), deeds, notes)


def with_number(line, spot, number):
    return line[:spot] + [number] + line[spot + 1:]


def with_part(deed, spot, part):
    return deed[:spot] + (part,) + deed[spot + 1:]


def lined_deeds():
    return [deed for deed in DEEDS if deed[0] in LINE_AT]


class RightTest(unittest.TestCase):
    def assert_right(self, answer, **parts):
        self.assertIs(right(made(**parts)), answer, parts)

    def assert_deed(self, answer, deed):
        # A deed counts wherever it stands, so it is tried as the only, the first and the last one.
        plain = ("hold", PLAIN)
        for deeds in ([deed], [deed, plain], [plain, deed]):
            self.assertIs(right(made(deeds=deeds)), answer, deeds)

    def assert_line_everywhere(self, answer, line, part):
        # A line counts as the first and as the second one.
        for lines in ([line], [line, PLAIN], [PLAIN, line]):
            if part == "notes":
                for place in range(len(DEEDS)):
                    notes = [lines if place == other else [] for other in range(len(DEEDS))]
                    self.assert_right(answer, notes=notes)
            else:
                self.assert_right(answer, **{part: lines})


class OathsAndNotes(RightTest):
    def test_a_whole_craft_is_right(self):
        self.assert_right(True, needs=NEEDS, leaves=LEAVES, notes=NOTES)

    def test_none_one_and_two_lines_are_right_and_three_are_not(self):
        for part in ("needs", "leaves"):
            for count, answer in ((0, True), (1, True), (2, True), (3, False), (4, False)):
                self.assert_right(answer, **{part: [PLAIN] * count})

    def test_none_one_and_two_notes_of_each_deed_are_right_and_three_are_not(self):
        for place in range(len(DEEDS)):
            for count, answer in ((0, True), (1, True), (2, True), (3, False), (4, False)):
                notes = [[] for _ in DEEDS]
                notes[place] = [PLAIN] * count
                self.assert_right(answer, notes=notes)

    def test_lists_of_notes_are_as_many_as_deeds(self):
        for count in range(1, 9):
            deeds = [("hold", PLAIN)] * count
            self.assert_right(True, deeds=deeds, notes=[[]] * count)
            self.assert_right(False, deeds=deeds, notes=[[]] * (count - 1))
            self.assert_right(False, deeds=deeds, notes=[[]] * (count + 1))
            self.assert_right(False, deeds=deeds, notes=[[PLAIN]] * (count + 1))

    def assert_nought_spots(self, part, nought_spots):
        for spot in range(9):
            for number in (1, -1, BILLION, -BILLION):
                line = with_number(PLAIN, spot, number)
                self.assert_line_everywhere(spot not in nought_spots, line, part)

    def test_needs_have_factors_of_the_asked_alone(self):
        self.assert_nought_spots("needs", (1, 2, 3, 4, 7, 8))

    def test_leaves_have_no_factors_of_the_hands(self):
        self.assert_nought_spots("leaves", (1, 2, 3, 4))

    def test_notes_have_no_factors_of_the_left(self):
        self.assert_nought_spots("notes", (7, 8))

    def test_no_number_is_beyond_the_bound(self):
        free_spots = {"needs": (0, 5, 6), "leaves": (0, 5, 6, 7, 8), "notes": (0, 1, 2, 3, 4, 5, 6)}
        for part, spots in free_spots.items():
            for spot in spots:
                for sign in SIGNS:
                    kept = with_number(PLAIN, spot, sign * BILLION)
                    beyond = with_number(PLAIN, spot, sign * (BILLION + 1))
                    self.assert_line_everywhere(True, kept, part)
                    self.assert_line_everywhere(False, beyond, part)


class Deeds(RightTest):
    def test_one_to_eight_are_right_none_and_nine_are_not(self):
        for count in range(0, 12):
            self.assert_right(1 <= count <= 8, deeds=[("hold", PLAIN)] * count)

    def test_each_form_is_right(self):
        for deed in DEEDS:
            if deed[0] != "turn":
                self.assert_deed(True, deed)
        self.assert_deed(True, ("turn", PLAIN, 0))

    def test_lines_have_no_factors_of_the_left(self):
        for deed in lined_deeds():
            spot_of_line = LINE_AT[deed[0]]
            for spot in range(9):
                for number in (1, -1):
                    line = with_number(PLAIN, spot, number)
                    deeds = [with_part(deed, spot_of_line, line) if deed == other else other for other in DEEDS]
                    self.assert_right(spot < 7, deeds=deeds)

    def test_no_number_of_a_line_is_beyond_the_bound(self):
        for deed in lined_deeds():
            spot_of_line = LINE_AT[deed[0]]
            for spot in range(7):
                for number in (BILLION, -BILLION, BILLION + 1, -BILLION - 1):
                    line = with_number(PLAIN, spot, number)
                    deeds = [with_part(deed, spot_of_line, line) if deed == other else other for other in DEEDS]
                    self.assert_right(abs(number) <= BILLION, deeds=deeds)

    def test_hands_are_0_to_3(self):
        for hand in range(-2, 7):
            answer = 0 <= hand <= 3
            other = 0 if hand != 0 else 1
            self.assert_deed(answer, ("set", hand, PLAIN))
            self.assert_deed(answer, ("part", hand, PLAIN, 1))
            self.assert_deed(answer, ("draw", hand, 0, 0))
            self.assert_deed(answer, ("call", 0, (hand, 0), (0, 1)))
            self.assert_deed(answer, ("call", 0, (0, hand), (0, 1)))
            self.assert_deed(answer, ("call", 0, (0, 1), (hand, other)))
            self.assert_deed(answer, ("call", 0, (0, 1), (other, hand)))

    def test_by_is_1_to_1000(self):
        for by, answer in ((-1, False), (0, False), (1, True), (2, True), (1000, True), (1001, False)):
            self.assert_deed(answer, ("part", 0, PLAIN, by))

    def test_low_is_not_above_high(self):
        for low, high in ((0, 0), (-3, -3), (-3, 4), (-4, -3), (3, 4), (BILLION, BILLION), (-BILLION, -BILLION)):
            self.assert_deed(True, ("draw", 0, low, high))
        for low, high in ((1, 0), (-3, -4), (4, -4), (BILLION, BILLION - 1), (BILLION, -BILLION)):
            self.assert_deed(False, ("draw", 0, low, high))

    def test_low_and_high_are_not_beyond_the_bound(self):
        self.assert_deed(True, ("draw", 0, -BILLION, BILLION))
        for low, high in ((-BILLION - 1, 0), (-BILLION - 1, -BILLION), (0, BILLION + 1), (BILLION, BILLION + 1)):
            self.assert_deed(False, ("draw", 0, low, high))
        self.assert_deed(False, ("draw", 0, -BILLION - 1, -BILLION - 1))
        self.assert_deed(False, ("draw", 0, BILLION + 1, BILLION + 1))

    def test_a_turn_leads_to_a_place_of_the_craft_or_behind_it(self):
        for count in range(1, 9):
            for at in range(count):
                for place in (-1, 0, count - 1, count, count + 1):
                    deeds = [("hold", PLAIN)] * count
                    deeds[at] = ("turn", PLAIN, place)
                    self.assert_right(0 <= place <= count, deeds=deeds)

    def test_numbers_called_are_0_to_99(self):
        for number, answer in ((-1, False), (0, True), (1, True), (99, True), (100, False)):
            self.assert_deed(answer, ("call", number, (0, 1), (2, 3)))

    def test_given_may_be_alike_and_taken_may_not(self):
        for hand in range(4):
            self.assert_deed(True, ("call", 0, (hand, hand), (0, 1)))
            self.assert_deed(False, ("call", 0, (0, 1), (hand, hand)))
        for one in range(4):
            for other in range(4):
                self.assert_deed(one != other, ("call", 0, (one, other), (one, other)))
                self.assert_deed(True, ("call", 0, (one, other), (3, 0)))

    def test_given_and_taken_are_two_hands(self):
        for hands in ((), (0,), (0, 1, 2)):
            self.assert_deed(False, ("call", 0, hands, (0, 1)))
            self.assert_deed(False, ("call", 0, (0, 1), hands))


class Making(unittest.TestCase):
    def test_the_fields_are_lists_of_what_was_handed_in(self):
        craft = made(NEEDS, LEAVES, DEEDS, NOTES)
        self.assertEqual(fields(craft), [NEEDS, LEAVES, DEEDS, NOTES])
        for field in fields(craft):
            self.assertIs(type(field), list)
        for deed in craft.deeds:
            self.assertIs(type(deed), tuple)

    def test_takes_its_arguments_by_name(self):
        craft = Craft(needs=NEEDS, leaves=LEAVES, deeds=DEEDS, notes=NOTES)
        self.assertEqual(fields(craft), [NEEDS, LEAVES, DEEDS, NOTES])

    def test_a_craft_that_is_not_right_is_made_all_the_same(self):
        huge = [BILLION * BILLION] * 9
        deeds = [
            ("set", -1, huge), ("part", 4, huge, 0), ("draw", 9, 5, -5), ("turn", huge, 99), ("hold", huge),
            ("call", 100, (7, 7), (1, 1)), ("hold", huge), ("hold", huge), ("hold", huge),
        ]
        notes = [[huge, huge, huge]]
        craft = made([huge] * 3, [huge] * 3, deeds, notes)
        self.assertEqual(fields(craft), [[huge] * 3, [huge] * 3, deeds, notes])
        self.assertIs(right(craft), False)
        self.assertEqual(fields(made([], [], [], [])), [[], [], [], []])


class WhatIsDue(unittest.TestCase):
    def test_at_each_deed_its_notes(self):
        craft = made(NEEDS, LEAVES, DEEDS, NOTES)
        self.assertEqual([due_at(craft, place) for place in range(6)], NOTES)

    def test_behind_the_last_deed_the_leaves_with_the_hands_as_left(self):
        craft = made(NEEDS, LEAVES, DEEDS, NOTES)
        self.assertEqual(
            due_at(craft, 6), [[4, 7, -8, 0, 0, 5, -6, 0, 0], [-9, 0, 10, 0, 0, 0, 0, 0, 0]])

    def test_each_number_of_the_leaves_goes_where_it_belongs(self):
        for spot, goes_to in ((0, 0), (5, 5), (6, 6), (7, 1), (8, 2)):
            for number in (1, -1, BILLION, -BILLION):
                craft = made(leaves=[with_number(PLAIN, spot, number)])
                self.assertEqual(due_at(craft, 6), [with_number(PLAIN, goes_to, number)])

    def test_the_due_leaves_are_worth_what_the_leaves_are_with_those_left(self):
        hands, asked = [13, -17, 19, 23], [29, -31]
        craft = made(leaves=LEAVES)
        for due, leave in zip(due_at(craft, 6), LEAVES):
            self.assertEqual(worth(due, hands + asked + [37, 41]), worth(leave, [0] * 4 + asked + hands[:2]))

    def test_nothing_sworn_and_nothing_noted_is_nothing_due(self):
        craft = made()
        self.assertEqual([due_at(craft, place) for place in range(7)], [[]] * 7)

    def test_of_crafts_with_one_and_with_eight_deeds(self):
        for count in (1, 8):
            notes = [[with_number(PLAIN, 0, place)] for place in range(count)]
            craft = made(leaves=LEAVES[:1], deeds=[("hold", PLAIN)] * count, notes=notes)
            for place in range(count):
                self.assertEqual(due_at(craft, place), [[place, 0, 0, 0, 0, 0, 0, 0, 0]])
            self.assertEqual(due_at(craft, count), [[4, 7, -8, 0, 0, 5, -6, 0, 0]])

    def test_hands_stay_in_the_leaves_of_a_craft_that_is_not_right(self):
        craft = made(leaves=[[1, 2, 3, 4, 5, 6, 7, 80, 90]])
        self.assertEqual(due_at(craft, 6), [[1, 82, 93, 4, 5, 6, 7, 0, 0]])

    def test_a_place_beyond_the_craft_is_not_refused(self):
        craft = made(NEEDS, LEAVES, DEEDS, [[NOTE]] * 6)
        for place in (-2, -1, 7, 8):
            self.assertEqual(due_at(craft, place), [])

    def test_a_craft_with_too_few_or_too_many_notes_is_not_refused(self):
        few = made(leaves=LEAVES[:1], deeds=[("hold", PLAIN)] * 2, notes=[[NOTE]])
        self.assertEqual([due_at(few, place) for place in range(3)], [[NOTE], [], [[4, 7, -8, 0, 0, 5, -6, 0, 0]]])
        many = made(leaves=LEAVES[:1], deeds=[("hold", PLAIN)], notes=[[NOTE]] * 3)
        self.assertEqual([due_at(many, place) for place in range(3)], [[NOTE], [[4, 7, -8, 0, 0, 5, -6, 0, 0]], []])


class OwnLists(unittest.TestCase):
    def setUp(self):
        self.handed = copy.deepcopy([NEEDS, LEAVES, DEEDS, NOTES])
        self.craft = Craft(*self.handed)

    def told(self):
        return [due_at(self.craft, place) for place in range(7)] + [right(self.craft)]

    def test_nothing_handed_in_is_changed(self):
        before = copy.deepcopy(fields(self.craft))
        self.told()
        self.assertEqual(self.handed, [NEEDS, LEAVES, DEEDS, NOTES])
        self.assertEqual(fields(self.craft), before)

    def test_what_a_craft_was_made_of_may_be_changed(self):
        before = copy.deepcopy((fields(self.craft), self.told()))
        for part in lists_in(self.handed):
            part.append(BILLION + 1)
            part[0] = "changed"
        self.assertEqual((fields(self.craft), self.told()), before)

    def test_what_was_told_may_be_changed(self):
        before = copy.deepcopy((fields(self.craft), self.told()))
        for place in range(7):
            for part in lists_in(due_at(self.craft, place)):
                part.append(BILLION + 1)
                part[0] = "changed"
        self.assertEqual((fields(self.craft), self.told()), before)

    def test_no_two_told_lists_are_one(self):
        shared = list(PLAIN)
        lines = [shared, shared]
        deeds = [("set", 0, shared), ("hold", shared)]
        craft = Craft(lines, lines, deeds, [lines, lines])
        told = lists_in([fields(craft)] + [due_at(craft, place) for place in (0, 0, 1, 1, 2, 2)])
        marks = [id(part) for part in told]
        self.assertEqual(len(marks), len(set(marks)))
        handed = [id(part) for part in lists_in([lines, deeds])]
        self.assertEqual(set(marks) & set(handed), set())

    def test_two_crafts_of_the_same_lists_share_none(self):
        other = Craft(*self.handed)
        marks = [id(part) for part in lists_in(fields(self.craft)) + lists_in(fields(other))]
        self.assertEqual(len(marks), len(set(marks)))

    def test_a_craft_made_of_another_ones_fields_is_its_own(self):
        other = Craft(*fields(self.craft))
        before = copy.deepcopy(fields(self.craft))
        for part in lists_in(fields(other)):
            part.append("changed")
        self.assertEqual(fields(self.craft), before)

    def test_told_numbers_are_never_true_or_false(self):
        for line in [line for lines in self.told()[:-1] for line in lines]:
            self.assertEqual({type(number) for number in line}, {int})


if __name__ == "__main__":
    unittest.main()
