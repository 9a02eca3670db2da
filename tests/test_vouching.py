"""Points 1 and 8 to 10: duties, shows, sought."""

import copy
import unittest

from helping import NOUGHTS, Strewn, craft_of, fields, line, lists_in, numbers_in, spoil, strewn_craft
from swornhall.crafts import right
from swornhall.errors import HallError, Unmet
from swornhall.vouching import duties, shows, sought

FORTY = 10 ** 40 - 1
BILLION = 10 ** 9

NEED1 = [1, 0, 0, 0, 0, 2, -3, 0, 0]
NEED2 = [-4, 0, 0, 0, 0, 0, 5, 0, 0]
LEAVE1 = [4, 0, 0, 0, 0, 5, -6, 7, -8]
LEAVE2 = [-9, 0, 0, 0, 0, 0, 0, 0, 10]
# The leaves as they are due behind the last deed.
DUE1 = [4, 7, -8, 0, 0, 5, -6, 0, 0]
DUE2 = [-9, 0, 10, 0, 0, 0, 0, 0, 0]
# Two notes at a deed, and two behind it.
N1 = [2, 3, 5, 7, 11, 13, 17, 0, 0]
N2 = [-1, 0, 4, 0, -6, 0, 8, 0, 0]
X1 = [19, 23, 29, 31, 37, 41, 43, 0, 0]
X2 = [0, 1, 0, -1, 0, 0, 2, 0, 0]
# The two notes as they are due when a frame begins.
BEGUN1 = [2, 0, 0, 0, 0, 16, 22, 0, 0]
BEGUN2 = [-1, 0, 0, 0, 0, 0, 12, 0, 0]

LINE = [10, 1, 2, 3, 0, 0, -4, 0, 0]
LINE_BELOW = [-11, -1, -2, -3, 0, 0, 4, 0, 0]
PLAIN_DEED = ("set", 3, NOUGHTS)
OTHER = craft_of([PLAIN_DEED], [NEED1, NEED2], [LEAVE1, LEAVE2])
SILENT = craft_of([PLAIN_DEED])


def duties_of_deed(test, deed, crafts=None, notes=(N1, N2), after=(X1, X2)):
    # Behind the deed stands one that owes nothing, so that all but those of the beginning are the deed's.
    craft = craft_of([deed, PLAIN_DEED], notes=[list(notes), list(after)])
    test.assertTrue(right(craft))
    told = duties(craft, {} if crafts is None else crafts)
    test.assertEqual(told[:len(notes)], [(goal, []) for goal in (BEGUN1, BEGUN2)[:len(notes)]])
    return told[len(notes):]


class TheBeginning(unittest.TestCase):
    def told(self, needs, notes):
        return duties(craft_of([PLAIN_DEED], needs, notes=[notes]), {})

    def test_hands_0_and_1_are_the_asked_and_2_and_3_are_nought(self):
        self.assertEqual(self.told([NEED1, NEED2], [N1, N2]), [
            (BEGUN1, [NEED1, NEED2]), (BEGUN2, [NEED1, NEED2])])

    def test_of_none_and_of_one_line(self):
        self.assertEqual(self.told([NEED1], []), [])
        self.assertEqual(self.told([], []), [])
        self.assertEqual(self.told([NEED1], [N2]), [(BEGUN2, [NEED1])])
        self.assertEqual(self.told([], [N1]), [(BEGUN1, [])])

    def test_notes_of_later_deeds_are_not_due_there(self):
        craft = craft_of([PLAIN_DEED, PLAIN_DEED], [NEED1], notes=[[N1], [X2]])
        self.assertEqual(duties(craft, {})[:2], [(BEGUN1, [NEED1]), (X2, [N1])])


class OfEachDeed(unittest.TestCase):
    def test_set(self):
        self.assertEqual(duties_of_deed(self, ("set", 1, [10, 1, 2, 0, 0, 0, 3, 0, 0])), [
            ([309, 52, 58, 31, 37, 41, 130, 0, 0], [N1, N2]),
            ([0, 1, 0, -1, 0, 0, 2, 0, 0], [N1, N2])])

    def test_set_each_hand(self):
        for hand in range(4):
            wanted = list(X1)
            wanted[1 + hand] = 0
            wanted[0] = 19 + 10 * X1[1 + hand]
            told = duties_of_deed(self, ("set", hand, line(10)), after=[X1])
            self.assertEqual(told, [(wanted, [N1, N2])])

    def test_part(self):
        self.assertEqual(duties_of_deed(self, ("part", 2, LINE, 7)), [
            ([19, 23, 29, 0, 37, 41, 43, 31, 0],
             [N1, N2, [10, 1, 2, 3, 0, 0, -4, -7, 0], [-4, -1, -2, -3, 0, 0, 4, 7, 0]]),
            ([0, 1, 0, 0, 0, 0, 2, -1, 0],
             [N1, N2, [10, 1, 2, 3, 0, 0, -4, -7, 0], [-4, -1, -2, -3, 0, 0, 4, 7, 0]])])

    def test_part_by_1_and_by_1000(self):
        self.assertEqual(duties_of_deed(self, ("part", 0, LINE, 1), notes=[N1], after=[X2]), [
            ([0, 0, 0, -1, 0, 0, 2, 1, 0],
             [N1, [10, 1, 2, 3, 0, 0, -4, -1, 0], [-10, -1, -2, -3, 0, 0, 4, 1, 0]])])
        self.assertEqual(duties_of_deed(self, ("part", 3, LINE, 1000), notes=[N1], after=[X2]), [
            ([0, 1, 0, -1, 0, 0, 2, 0, 0],
             [N1, [10, 1, 2, 3, 0, 0, -4, -1000, 0], [989, -1, -2, -3, 0, 0, 4, 1000, 0]])])

    def test_draw(self):
        from_low, to_high = [5, 0, 0, 0, 0, 0, 0, 1, 0], [8, 0, 0, 0, 0, 0, 0, -1, 0]
        self.assertEqual(duties_of_deed(self, ("draw", 0, -5, 8)), [
            ([19, 0, 29, 31, 37, 41, 43, 23, 0], [N1, N2, from_low, to_high]),
            ([0, 0, 0, -1, 0, 0, 2, 1, 0], [N1, N2, from_low, to_high])])

    def test_draw_at_the_bounds_and_of_one_number(self):
        self.assertEqual(duties_of_deed(self, ("draw", 3, -BILLION, BILLION), notes=[], after=[X2]), [
            (X2, [[BILLION, 0, 0, 0, 0, 0, 0, 1, 0], [BILLION, 0, 0, 0, 0, 0, 0, -1, 0]])])
        self.assertEqual(duties_of_deed(self, ("draw", 3, 6, 6), notes=[], after=[X2]), [
            (X2, [[-6, 0, 0, 0, 0, 0, 0, 1, 0], [6, 0, 0, 0, 0, 0, 0, -1, 0]])])

    def test_turn_to_its_own_place(self):
        self.assertEqual(duties_of_deed(self, ("turn", LINE, 0)), [
            (N1, [N1, N2, LINE]), (N2, [N1, N2, LINE]),
            (X1, [N1, N2, LINE_BELOW]), (X2, [N1, N2, LINE_BELOW])])

    def test_turn_forward(self):
        self.assertEqual(duties_of_deed(self, ("turn", LINE, 1)), [
            (X1, [N1, N2, LINE]), (X2, [N1, N2, LINE]),
            (X1, [N1, N2, LINE_BELOW]), (X2, [N1, N2, LINE_BELOW])])

    def test_turn_backward(self):
        craft = craft_of([PLAIN_DEED, ("turn", LINE, 0)], [NEED1], [LEAVE1], [[N1], [X1]])
        self.assertEqual(duties(craft, {}), [
            (BEGUN1, [NEED1]), ([19, 23, 29, 31, 0, 41, 43, 0, 0], [N1]),
            (N1, [X1, LINE]), (DUE1, [X1, LINE_BELOW])])

    def test_turn_behind_the_last_deed(self):
        craft = craft_of([("turn", LINE, 2), PLAIN_DEED], [], [LEAVE1, LEAVE2], [[N1], [X1]])
        self.assertEqual(duties(craft, {}), [
            (BEGUN1, []), (DUE1, [N1, LINE]), (DUE2, [N1, LINE]), (X1, [N1, LINE_BELOW]), (DUE1, [X1]), (DUE2, [X1])])

    def test_hold(self):
        self.assertEqual(duties_of_deed(self, ("hold", LINE)), [
            (LINE, [N1, N2]), (X1, [N1, N2, LINE]), (X2, [N1, N2, LINE])])

    def test_hold_owes_its_line_where_nothing_is_due_behind_it(self):
        self.assertEqual(duties_of_deed(self, ("hold", LINE), notes=[], after=[]), [(LINE, [])])


class OfACall(unittest.TestCase):
    def test_of_two_hands(self):
        self.assertEqual(duties_of_deed(self, ("call", 7, (2, 3), (0, 1)), {7: OTHER}), [
            ([1, 0, 0, 2, -3, 0, 0, 0, 0], [N1, N2]),
            ([-4, 0, 0, 0, 5, 0, 0, 0, 0], [N1, N2]),
            ([19, 0, 0, 31, 37, 41, 43, 23, 29],
             [N1, N2, [4, 0, 0, 5, -6, 0, 0, 7, -8], [-9, 0, 0, 0, 0, 0, 0, 0, 10]]),
            ([0, 0, 0, -1, 0, 0, 2, 1, 0],
             [N1, N2, [4, 0, 0, 5, -6, 0, 0, 7, -8], [-9, 0, 0, 0, 0, 0, 0, 0, 10]])])

    def test_that_gives_the_same_hand_twice(self):
        self.assertEqual(duties_of_deed(self, ("call", 7, (2, 2), (0, 1)), {7: OTHER}, after=[X2]), [
            ([1, 0, 0, -1, 0, 0, 0, 0, 0], [N1, N2]),
            ([-4, 0, 0, 5, 0, 0, 0, 0, 0], [N1, N2]),
            ([0, 0, 0, -1, 0, 0, 2, 1, 0],
             [N1, N2, [4, 0, 0, -1, 0, 0, 0, 7, -8], [-9, 0, 0, 0, 0, 0, 0, 0, 10]])])

    def test_that_gives_hands_1_and_0(self):
        self.assertEqual(duties_of_deed(self, ("call", 7, (1, 0), (2, 3)), {7: OTHER}, after=[])[0], (
            [1, -3, 2, 0, 0, 0, 0, 0, 0], [N1, N2]))

    def test_that_takes_hands_1_and_0(self):
        self.assertEqual(duties_of_deed(self, ("call", 7, (0, 1), (1, 0)), {7: SILENT}), [
            ([19, 0, 0, 31, 37, 41, 43, 29, 23], [N1, N2]),
            ([0, 0, 0, -1, 0, 0, 2, 0, 1], [N1, N2])])

    def test_that_takes_hands_3_and_0(self):
        self.assertEqual(duties_of_deed(self, ("call", 7, (0, 1), (3, 0)), {7: SILENT}), [
            ([19, 0, 29, 31, 0, 41, 43, 37, 23], [N1, N2]),
            ([0, 0, 0, -1, 0, 0, 2, 0, 1], [N1, N2])])

    def test_of_a_craft_with_no_needs_and_no_leaves(self):
        self.assertEqual(duties_of_deed(self, ("call", 0, (0, 1), (2, 3)), {0: SILENT}, after=[]), [])
        self.assertEqual(duties_of_deed(self, ("call", 0, (0, 1), (2, 3)), {0: SILENT}, notes=[], after=[X2]), [
            ([0, 1, 0, 0, 0, 0, 2, -1, 0], [])])

    def test_of_itself(self):
        craft = craft_of([("call", 5, (1, 0), (0, 1))], [NEED1], [LEAVE1], [[N2]])
        self.assertEqual(duties(craft, {5: craft}), [
            (BEGUN2, [NEED1]),
            ([1, -3, 2, 0, 0, 0, 0, 0, 0], [N2]),
            ([4, 0, 0, 0, 0, 5, -6, 7, -8], [N2, [4, -6, 5, 0, 0, 0, 0, 7, -8]])])

    def test_the_oath_is_of_the_number_called(self):
        mild = craft_of([PLAIN_DEED], [NEED2], [])
        craft = craft_of([("call", 7, (0, 1), (2, 3)), ("call", 8, (0, 1), (2, 3))])
        self.assertEqual(duties(craft, {7: mild, 8: OTHER}), [
            ([-4, 0, 5, 0, 0, 0, 0, 0, 0], []),
            ([1, 2, -3, 0, 0, 0, 0, 0, 0], []), ([-4, 0, 5, 0, 0, 0, 0, 0, 0], [])])


class Unmets(unittest.TestCase):
    def assert_unmet(self, craft, crafts):
        with self.assertRaises(Unmet) as taken:
            duties(craft, crafts)
        self.assertIs(type(taken.exception), Unmet)
        self.assertIsInstance(taken.exception, HallError)

    def test_a_call_of_one_left_out_and_told_once_it_is_there(self):
        craft = craft_of([("call", 7, (0, 1), (2, 3))])
        self.assert_unmet(craft, {})
        self.assert_unmet(craft, {6: OTHER, 8: OTHER})
        self.assertEqual(len(duties(craft, {7: OTHER})), 2)

    def test_each_of_several_calls(self):
        deeds = [PLAIN_DEED] + [("call", number, (0, 1), (2, 3)) for number in (0, 50, 99)] + [PLAIN_DEED]
        crafts = {0: SILENT, 50: SILENT, 99: SILENT}
        self.assertEqual(duties(craft_of(deeds), crafts), [])
        for number in crafts:
            self.assert_unmet(craft_of(deeds), {other: crafts[other] for other in crafts if other != number})

    def test_a_call_of_itself_that_does_not_stand(self):
        craft = craft_of([("call", 5, (1, 0), (0, 1))])
        self.assert_unmet(craft, {})
        self.assertEqual(duties(craft, {5: craft}), [])

    def test_without_calls_nothing_need_stand(self):
        self.assertEqual(duties(SILENT, {}), [])

    def test_what_the_called_craft_calls_need_not_stand(self):
        other = craft_of([("call", 9, (0, 1), (2, 3))])
        self.assertEqual(duties(craft_of([("call", 7, (0, 1), (2, 3))]), {7: other}), [])


class Order(unittest.TestCase):
    def test_the_beginning_then_deed_by_deed(self):
        marks = [line(place + 1) for place in range(6)]
        deeds = [
            ("hold", line(10)), ("turn", line(20), 6), ("part", 0, line(30), 2), ("draw", 0, 40, 41),
            ("call", 7, (0, 1), (2, 3)), ("set", 0, line(50))]
        craft = craft_of(deeds, [line(-1)], [line(7), line(8)], [[mark] for mark in marks])
        other = craft_of([PLAIN_DEED], [line(60)], [line(70)])
        self.assertEqual(duties(craft, {7: other}), [
            (line(1), [line(-1)]),
            (line(10), [line(1)]), (line(2), [line(1), line(10)]),
            (line(7), [line(2), line(20)]), (line(8), [line(2), line(20)]), (line(3), [line(2), line(-21)]),
            (line(4), [line(3), line(30, l0=-2), line(-29, l0=2)]),
            (line(5), [line(4), line(-40, l0=1), line(41, l0=-1)]),
            (line(60), [line(5)]), (line(6), [line(5), line(70)]),
            (line(7), [line(6)]), (line(8), [line(6)])])

    def test_behind_the_last_deed_the_leaves_are_due(self):
        self.assertEqual(duties(craft_of([("set", 0, line(3, h1=1))], [NEED1], [LEAVE1, LEAVE2], [[N2]]), {}), [
            (BEGUN2, [NEED1]), ([25, 0, -1, 0, 0, 5, -6, 0, 0], [N2]), (DUE2, [N2])])
        for deed in (("part", 0, LINE, 2), ("draw", 0, 1, 2), ("call", 7, (2, 3), (0, 2))):
            told = duties(craft_of([deed], [], [LEAVE1]), {7: SILENT})
            self.assertEqual([goal for goal, hypotheses in told], [[4, 0, -8, 0, 0, 5, -6, 7, 0]])
        for deed in (("hold", LINE), ("turn", LINE, 0)):
            self.assertEqual(duties(craft_of([deed], [], [LEAVE1]), {})[-1][0], DUE1)

    def test_none_one_and_two_lines_due_are_as_many_duties(self):
        for after in ([], [X1], [X1, X2]):
            for deed, own in ((("set", 0, LINE), 0), (("part", 0, LINE, 2), 0), (("draw", 0, 1, 2), 0),
                              (("hold", LINE), 1), (("call", 7, (0, 1), (2, 3)), 2)):
                self.assertEqual(len(duties_of_deed(self, deed, {7: OTHER}, after=after)), own + len(after))
            self.assertEqual(len(duties_of_deed(self, ("turn", LINE, 1), after=after)), 2 * len(after))


def at(line_at, hands, asked, left=(0, 0)):
    numbers = list(hands) + list(asked) + list(left)
    return line_at[0] + sum(factor * number for factor, number in zip(line_at[1:], numbers))


def due_worths(craft, place, hands, asked):
    if place == len(craft.deeds):
        return [at(leave, [0] * 4, asked, hands[:2]) for leave in craft.leaves]
    return [at(note, hands, asked) for note in craft.notes[place]]


def put(hands, hand, number):
    return [number if hand == other else old for other, old in enumerate(hands)]


def deed_worths(craft, place, crafts, hands, asked, news):
    """What the duties of one deed are worth, told by what its step does rather than by turning lines."""
    deed, notes = craft.deeds[place], due_worths(craft, place, hands, asked)

    def after(then, *more):
        return [(goal, notes + list(more)) for goal in due_worths(craft, place + 1, then, asked)]

    if deed[0] == "set":
        return after(put(hands, deed[1], at(deed[2], hands, asked)))
    if deed[0] == "part":
        over = at(deed[2], hands, asked) - deed[3] * news[0]
        return after(put(hands, deed[1], news[0]), over, deed[3] - 1 - over)
    if deed[0] == "draw":
        return after(put(hands, deed[1], news[0]), news[0] - deed[2], deed[3] - news[0])
    if deed[0] == "turn":
        worth = at(deed[1], hands, asked)
        there = [(goal, notes + [worth]) for goal in due_worths(craft, deed[2], hands, asked)]
        return there + after(hands, -1 - worth)
    if deed[0] == "hold":
        worth = at(deed[1], hands, asked)
        return [(worth, notes)] + after(hands, worth)
    other, given = crafts[deed[1]], [hands[hand] for hand in deed[2]]
    needs = [(at(need, [0] * 4, given), notes) for need in other.needs]
    then = put(put(hands, deed[3][0], news[0]), deed[3][1], news[1])
    return needs + after(then, *[at(leave, [0] * 4, given, news) for leave in other.leaves])


def all_worths(craft, crafts, hands, asked, news):
    needs = [at(need, [0] * 4, asked) for need in craft.needs]
    told = [(goal, needs) for goal in due_worths(craft, 0, list(asked) + [0, 0], asked)]
    for place in range(len(craft.deeds)):
        told.extend(deed_worths(craft, place, crafts, hands, asked, news))
    return told


class StrewnCrafts(unittest.TestCase):
    def test_duties_are_worth_what_the_steps_make_of_them(self):
        for seed in range(60):
            strewn = Strewn(seed)
            crafts = {number: strewn_craft(strewn, BILLION) for number in range(4)}
            for craft in crafts.values():
                self.assertTrue(right(craft))
                told = duties(craft, crafts)
                for _ in range(3):
                    hands = [strewn.between(-BILLION, BILLION) for _ in range(4)]
                    asked = [strewn.between(-BILLION, BILLION) for _ in range(2)]
                    news = [strewn.between(-BILLION, BILLION) for _ in range(2)]
                    worths = [
                        (at(goal, hands, asked, news), [at(other, hands, asked, news) for other in hypotheses])
                        for goal, hypotheses in told]
                    self.assertEqual(worths, all_worths(craft, crafts, hands, asked, news))


class BeyondTheBounds(unittest.TestCase):
    def test_a_craft_that_is_not_right_is_not_refused(self):
        huge = [FORTY] * 7 + [0, 0]
        self.assertEqual(duties_of_one(("part", 0, huge, 0), [line(h0=1)]), [
            ([0, 0, 0, 0, 0, 0, 0, 1, 0], [huge, [-1 - FORTY] + [-FORTY] * 6 + [0, 0]])])
        self.assertEqual(duties_of_one(("draw", 0, 5, 4), [line(h0=1)]), [
            ([0, 0, 0, 0, 0, 0, 0, 1, 0], [line(-5, l0=1), line(4, l0=-1)])])
        self.assertEqual(duties_of_one(("set", 9, LINE), [DUE1]), [(DUE1, [])])
        self.assertEqual(duties_of_one(("turn", LINE, 9), [DUE1]), [(DUE1, [LINE_BELOW])])
        craft = craft_of([PLAIN_DEED] * 9, [], [LEAVE1] * 3, [[N1] * 3])
        self.assertEqual(len(duties(craft, {})), 3 + 0 + 3)


def duties_of_one(deed, after):
    return duties(craft_of([deed, PLAIN_DEED], notes=[[], after]), {})


class Shows(unittest.TestCase):
    def assert_shows(self, answer, goal, hypotheses, whole, weights):
        self.assertIs(shows((goal, hypotheses), (whole, weights)), answer, (goal, hypotheses, whole, weights))

    def test_a_goal_from_itself(self):
        self.assert_shows(True, N1, [N1], 1, [1])
        self.assert_shows(True, N1, [N2, N1], 1, [0, 1])
        self.assert_shows(False, N1, [N2, N1], 1, [1, 0])

    def test_whole_is_1_or_more(self):
        for whole, answer in ((-2, False), (-1, False), (0, False), (1, True), (2, True), (17, True), (FORTY, True)):
            self.assert_shows(answer, N1, [N1], whole, [abs(whole)])
            self.assert_shows(answer, line(5), [], whole, [])
            self.assert_shows(answer, line(0), [N1], whole, [0])

    def test_whole_below_1_shows_nothing_though_the_rest_would_do(self):
        self.assert_shows(False, N1, [line(0)], 0, [0])
        self.assert_shows(False, N1, [line(-1)], 0, [1])
        self.assert_shows(False, line(-1, h0=1), [line(-2, h0=-1)], -1, [1])
        self.assert_shows(False, line(-9), [], -1, [])

    def test_no_weight_is_below_nought(self):
        self.assert_shows(True, line(h0=1), [line(h0=1), line(h1=1)], 1, [1, 0])
        self.assert_shows(False, line(h0=-1), [line(h0=1)], 1, [-1])
        self.assert_shows(False, line(h0=1), [line(h0=1), line(0)], 1, [1, -1])
        self.assert_shows(False, line(h0=1), [line(0), line(h0=1)], 1, [-1, 1])
        self.assert_shows(False, line(h0=1), [line(h0=2), line(h0=1)], 1, [1, -1])

    def test_a_weight_too_few_or_too_many_shows_nothing(self):
        self.assert_shows(True, N1, [N1, N2], 1, [1, 0])
        for weights in ([], [1], [1, 0, 0], [1, 0, 0, 0]):
            self.assert_shows(False, N1, [N1, N2], 1, weights)
        self.assert_shows(False, line(5), [], 1, [0])
        self.assert_shows(False, line(5), [N1], 1, [])

    def test_one_factor_left_over_shows_nothing(self):
        for spot in range(1, 9):
            for number in (1, -1):
                goal = list(X1)
                goal[spot] = goal[spot] + number
                self.assert_shows(False, goal, [X1], 1, [1])
                self.assert_shows(False, [FORTY] + goal[1:], [X1], 1, [1])
                self.assert_shows(False, [goal[0]] + [0] * (spot - 1) + [number] + [0] * (8 - spot), [], 1, [])

    def test_the_constant_of_the_rest_is_above_minus_whole(self):
        for whole in (1, 2, 3, 10):
            for rest, answer in ((-whole - 1, False), (-whole, False), (1 - whole, True), (0, True), (1, True)):
                hypothesis = [-rest] + [whole * factor for factor in X1[1:]]
                self.assert_shows(answer, [0] + X1[1:], [hypothesis], whole, [1])

    def test_the_constants_of_the_hypotheses_count_by_their_weights(self):
        self.assert_shows(True, line(7, h0=5), [line(2, h0=1), line(1, h0=1)], 1, [2, 3])
        self.assert_shows(False, line(6, h0=5), [line(2, h0=1), line(1, h0=1)], 1, [2, 3])
        self.assert_shows(True, line(6, h0=5), [line(2, h0=1), line(1, h0=1)], 1, [1, 4])

    def test_no_hypotheses(self):
        for constant, answer in ((-2, False), (-1, False), (0, True), (1, True)):
            self.assert_shows(answer, line(constant), [], 1, [])
            self.assert_shows(answer, line(constant), [], 4, [])

    def test_forty_figures(self):
        self.assert_shows(True, [FORTY] * 9, [[1] * 9], 1, [FORTY])
        self.assert_shows(False, [FORTY - 1] + [FORTY] * 8, [[1] * 9], 1, [FORTY])
        self.assert_shows(True, [FORTY] * 9, [[2] * 9], 2, [FORTY])
        self.assert_shows(False, [FORTY - 1] + [FORTY] * 8, [[2] * 9], 2, [FORTY])
        self.assert_shows(False, [FORTY] * 8 + [FORTY - 1], [[1] * 9], 1, [FORTY])
        self.assert_shows(True, [0] * 9, [[FORTY - 1] + [0] * 8], FORTY, [1])
        self.assert_shows(False, [0] * 9, [[FORTY] + [0] * 8], FORTY, [1])

    def test_what_the_clerk_did_not_find_shows_nothing(self):
        self.assertIs(shows((N1, []), None), False)
        self.assertIs(shows((line(5), []), None), False)


def weights_of(number, count):
    return [int(bit) for bit in reversed(format(number, "b").zfill(count))][:count]


def sought_by_hand(duty):
    count = len(duty[1])
    for whole in (1, 2, 3, 4):
        for number in range(2 ** count):
            if shows(duty, (whole, weights_of(number, count))):
                return (whole, weights_of(number, count))
    return None


class Sought(unittest.TestCase):
    def assert_sought(self, wanted, goal, hypotheses):
        self.assertEqual(sought((goal, hypotheses)), wanted)

    def test_each_whole_may_be_the_first_to_show(self):
        for whole in (1, 2, 3, 4):
            self.assert_sought((whole, [1]), line(h0=1), [line(whole - 1, h0=whole)])
            self.assert_sought((whole, [0, 1]), line(h0=1), [line(h1=1), line(whole - 1, h0=whole)])
            self.assert_sought(None, line(h0=1), [line(whole, h0=whole)])
        self.assert_sought(None, line(h0=1), [line(0, h0=5)])

    def test_the_first_in_the_order_of_weights(self):
        h0, h1, both = line(h0=1), line(h1=1), line(h0=1, h1=1)
        self.assert_sought((1, [1, 1, 0]), both, [h0, h1, both])
        self.assert_sought((1, [1, 0, 0]), both, [both, h0, h1])
        self.assert_sought((1, [0, 1, 0]), both, [h0, both, h1])
        self.assert_sought((1, [1, 0]), both, [both, both])
        self.assert_sought((1, [0, 1]), both, [NOUGHTS, both])
        self.assert_sought((1, [0, 0]), line(3), [NOUGHTS, line(1)])

    def test_only_a_later_one_shows(self):
        h0, h1, h2, h3 = line(h0=1), line(h1=1), line(h2=1), line(h3=1)
        self.assert_sought((1, [0, 0, 0, 1]), h0, [h1, h2, h3, h0])
        self.assert_sought((1, [0, 1, 0, 1]), line(h0=1, h2=1), [h1, h2, h3, h0])
        self.assert_sought((1, [1, 1, 1, 1]), line(h0=1, h1=1, h2=1, h3=1), [h1, h2, h3, h0])

    def test_whole_rises_ahead_of_the_weights(self):
        # With whole 2 an earlier one shows; with whole 1 only a later one does.
        self.assertTrue(shows((line(h0=1), [line(h0=2), line(h0=1)]), (2, [1, 0])))
        self.assert_sought((1, [0, 1]), line(h0=1), [line(h0=2), line(h0=1)])
        self.assert_sought((2, [0, 1]), line(h0=1), [line(h0=3), line(h0=2)])

    def test_no_row_at_all(self):
        self.assert_sought(None, line(h0=1), [line(h1=1)])
        self.assert_sought(None, line(h0=1), [])
        self.assert_sought(None, line(-1), [])
        self.assert_sought(None, line(-1), [line(h0=1)])

    def test_rows_with_other_weights_and_wholes_are_not_looked_for(self):
        self.assertTrue(shows((line(h0=2), [line(h0=1)]), (1, [2])))
        self.assert_sought(None, line(h0=2), [line(h0=1)])
        self.assertTrue(shows((line(h0=1), [line(4, h0=5)]), (5, [1])))
        self.assert_sought(None, line(h0=1), [line(4, h0=5)])

    def test_no_hypotheses(self):
        self.assert_sought((1, []), line(0), [])
        self.assert_sought((1, []), line(5), [])

    def test_hypotheses_that_cannot_hold_together(self):
        self.assert_sought((1, [1, 1]), line(-5), [line(-6, h0=1), line(1, h0=-1)])

    def test_the_same_as_by_hand(self):
        found = {}
        for seed in range(600):
            strewn = Strewn(seed)
            count = strewn.below(5)
            hypotheses = [line(strewn.between(-2, 2), h0=strewn.between(-2, 2), a1=strewn.between(-1, 1))
                          for _ in range(count)]
            duty = (line(strewn.between(-2, 2), h0=strewn.between(-1, 1), a1=strewn.between(-1, 1)), hypotheses)
            row = sought(duty)
            self.assertEqual(row, sought_by_hand(duty))
            found[None if row is None else row[0]] = True
        self.assertEqual(set(found), {None, 1, 2, 3, 4})

    def test_kinds(self):
        row = sought((line(h0=1), [line(h0=1), line(h1=1)]))
        self.assertIs(type(row), tuple)
        self.assertIs(type(row[1]), list)
        self.assertEqual({type(number) for number in numbers_in(row)}, {int})


class OwnLists(unittest.TestCase):
    def setUp(self):
        deeds = [
            ("hold", LINE), ("turn", LINE, 6), ("part", 0, LINE, 2), ("draw", 0, 4, 5),
            ("call", 7, (0, 1), (2, 3)), ("set", 0, LINE)]
        self.craft = craft_of(deeds, [NEED1, NEED2], [LEAVE1, LEAVE2], [[N1, N2]] * 6)
        self.crafts = {7: craft_of([PLAIN_DEED], [NEED1, NEED2], [LEAVE1, LEAVE2])}

    def told(self):
        return duties(self.craft, self.crafts)

    def test_nothing_handed_in_is_changed(self):
        before = copy.deepcopy((fields(self.craft), fields(self.crafts[7])))
        told = self.told()
        kept = copy.deepcopy(told)
        for duty in told:
            row = (2, [1] * len(duty[1]))
            shows(duty, row)
            self.assertEqual(row, (2, [1] * len(duty[1])))
            sought(duty)
        self.assertEqual(told, kept)
        self.assertEqual((fields(self.craft), fields(self.crafts[7])), before)
        self.assertEqual(list(self.crafts), [7])

    def test_no_two_lists_are_one(self):
        told = [self.told(), self.told(), self.craft, self.crafts]
        marks = [id(part) for value in told for part in lists_in(value)]
        self.assertEqual(len(marks), len(set(marks)))

    def test_what_was_told_may_be_changed_and_the_same_is_told_again(self):
        before = copy.deepcopy(self.told())
        spoil(self.told())
        self.assertEqual(self.told(), before)

    def test_a_change_of_one_duty_changes_no_other_one(self):
        before = copy.deepcopy(self.told())
        for spot in range(len(before)):
            told = self.told()
            spoil(told[spot])
            self.assertEqual(told[:spot] + told[spot + 1:], before[:spot] + before[spot + 1:])

    def test_what_was_handed_in_may_be_changed_behind_the_telling(self):
        told = self.told()
        before = copy.deepcopy(told)
        spoil([self.craft, self.crafts])
        self.assertEqual(told, before)

    def test_a_row_may_be_changed_and_the_same_is_told_again(self):
        duty = (line(h0=1), [line(h1=1), line(h0=1)])
        first, second = sought(duty), sought(duty)
        spoil(first)
        self.assertEqual(second, (1, [0, 1]))
        self.assertEqual(sought(duty), (1, [0, 1]))

    def test_kinds(self):
        told = self.told()
        self.assertIs(type(told), list)
        for duty in told:
            self.assertIs(type(duty), tuple)
            self.assertEqual([type(part) for part in duty], [list, list])
            self.assertEqual({type(part) for part in duty[1]}, {list})
        self.assertEqual({type(number) for number in numbers_in(told)}, {int})


if __name__ == "__main__":
    unittest.main()
