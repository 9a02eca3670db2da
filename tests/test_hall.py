"""Points 1, 11, 12 and 16: the hall."""

import copy
import unittest

from helping import NOUGHTS, Strewn, craft_of, fields, line, lists_in, numbers_in, spoil
from swornhall.crafts import Craft
from swornhall.errors import BadSheet, HallError, NoCraft, NotShown, Unmet
from swornhall.hall import Hall

NEED = line(a0=1)
NOTE = line(h0=1)
LEAVE = line(l0=1)
PLAIN_DEED = ("set", 3, NOUGHTS)


def oathed(deed, needs=(NEED,), leaves=(LEAVE,), note=NOTE):
    return craft_of([deed], needs, leaves, [[note]])


# Its two rows are found by seeking.
GOOD = oathed(("set", 0, line(1, h0=1)))
GOOD_ROWS = [(1, [1]), (1, [1])]
# The same oath; its second row has a weight of 2, which no seeking finds.
HARD = oathed(("set", 0, line(h0=2)))
HARD_ROWS = [(1, [1]), (1, [2])]
# The same oath; no row shows its second duty.
FALSE = oathed(("set", 0, line(-1)))
# Nothing is due anywhere.
SILENT = craft_of([PLAIN_DEED])
BAD = craft_of([("set", 4, NOUGHTS)])


def caller(*numbers):
    deeds = [("call", number, (0, 1), (0, 1)) for number in numbers]
    return craft_of(deeds, [NEED], [LEAVE], [[NOTE]] * len(deeds))


def hall_with(**crafts):
    """A hall with crafts by number, the numbers told as n0, n1 and so on."""
    hall = Hall()
    for name, craft in crafts.items():
        hall.lay(int(name[1:]), craft)
    return hall


def all_held(hall):
    for number in hall.standing():
        hall.seek(number)
    return hall


def told_by(hall):
    numbers = range(-1, 101)
    return (
        hall.standing(), [(number, fields(craft)) for number, craft in hall.crafts().items()],
        [hall.held(number) for number in numbers], [hall.sworn(number) for number in numbers],
        [hall.reach(number) for number in numbers])


class HallTest(unittest.TestCase):
    def assert_refused(self, error, hall, asked, *parts):
        before = copy.deepcopy(told_by(hall))
        with self.assertRaises(error) as taken:
            getattr(hall, asked)(*parts)
        self.assertIs(type(taken.exception), error)
        self.assertIsInstance(taken.exception, HallError)
        self.assertIsInstance(taken.exception, ValueError)
        self.assertEqual(told_by(hall), before)

    def assert_held(self, hall, *numbers):
        self.assertEqual([number for number in range(-1, 101) if hall.held(number)], list(numbers))


class LayingAndTearing(HallTest):
    def test_a_new_hall_is_empty(self):
        hall = Hall()
        self.assertEqual((hall.standing(), hall.crafts()), ([], {}))
        self.assert_held(hall)

    def test_crafts_stand_at_their_numbers(self):
        hall = Hall()
        for number in (99, 0, 50, 7):
            self.assertIsNone(hall.lay(number, craft_of([("set", 0, line(number))])))
        self.assertEqual(hall.standing(), [0, 7, 50, 99])
        self.assertEqual(sorted(hall.crafts()), [0, 7, 50, 99])
        for number, craft in hall.crafts().items():
            self.assertEqual(fields(craft), [[], [], [("set", 0, line(number))], [[]]])

    def test_two_halls_are_apart(self):
        one, other = Hall(), Hall()
        one.lay(1, GOOD)
        one.seek(1)
        self.assertEqual(other.standing(), [])
        self.assert_held(other)

    def test_a_craft_laid_where_one_stands_takes_its_place(self):
        hall = hall_with(n3=GOOD, n4=SILENT)
        hall.lay(3, HARD)
        self.assertEqual(hall.standing(), [3, 4])
        self.assertEqual(fields(hall.crafts()[3]), fields(HARD))
        self.assertEqual(fields(hall.crafts()[4]), fields(SILENT))

    def test_a_craft_that_is_not_right_is_refused(self):
        wrong = [
            BAD, craft_of([]), craft_of([PLAIN_DEED] * 9), craft_of([PLAIN_DEED], notes=[]),
            craft_of([PLAIN_DEED], needs=[NOTE]), craft_of([PLAIN_DEED], leaves=[NOTE]),
            craft_of([PLAIN_DEED], notes=[[LEAVE]]), craft_of([PLAIN_DEED], needs=[NEED] * 3),
            craft_of([("hold", line(10 ** 9 + 1))]), craft_of([("call", 100, (0, 1), (0, 1))]),
            craft_of([("call", 1, (0, 1), (1, 1))]), craft_of([("part", 0, NOUGHTS, 0)]),
            craft_of([("draw", 0, 1, 0)]), craft_of([("turn", NOUGHTS, 2)])]
        for craft in wrong:
            self.assert_refused(BadSheet, Hall(), "lay", 3, craft)
            hall = all_held(hall_with(n3=GOOD, n4=caller(3)))
            self.assert_held(hall, 3, 4)
            self.assert_refused(BadSheet, hall, "lay", 3, craft)
            self.assert_refused(BadSheet, hall, "lay", 5, craft)
            self.assert_held(hall, 3, 4)

    def test_torn(self):
        hall = hall_with(n3=GOOD, n4=SILENT)
        self.assertIsNone(hall.tear(3))
        self.assertEqual((hall.standing(), list(hall.crafts())), ([4], [4]))
        self.assert_refused(NoCraft, hall, "tear", 3)
        hall.lay(3, HARD)
        self.assertEqual(hall.standing(), [3, 4])

    def test_nothing_is_torn_where_no_craft_stands(self):
        for number in (0, 1, 99, 100, -1):
            self.assert_refused(NoCraft, Hall(), "tear", number)
            self.assert_refused(NoCraft, all_held(hall_with(n2=GOOD, n3=caller(2))), "tear", number)

    def test_numbers_beyond_the_bound_are_not_refused(self):
        for number in (-1, 100, 101):
            hall = Hall()
            hall.lay(number, GOOD)
            self.assertEqual(hall.standing(), [number])
            self.assertEqual(hall.seek(number), GOOD_ROWS)
            self.assertIs(hall.sworn(number), True)
            hall.tear(number)
            self.assertEqual(hall.standing(), [])


class Vouching(HallTest):
    def test_rows_that_show_hold_the_craft(self):
        for craft, rows in ((GOOD, GOOD_ROWS), (HARD, HARD_ROWS), (SILENT, [])):
            hall = hall_with(n3=craft)
            self.assertIs(hall.held(3), False)
            self.assertIsNone(hall.vouch(3, rows))
            self.assertIs(hall.held(3), True)
            self.assert_held(hall, 3)

    def test_rows_fewer_or_more_than_the_duties(self):
        for rows in ([], GOOD_ROWS[:1], GOOD_ROWS + [(1, [1])], GOOD_ROWS + [(1, [])]):
            self.assert_refused(NotShown, hall_with(n3=GOOD), "vouch", 3, rows)
        self.assert_refused(NotShown, hall_with(n3=SILENT), "vouch", 3, [(1, [])])

    def test_rows_that_do_not_show(self):
        wrong = ((1, [0]), (0, [1]), (1, [1, 0]), (1, []), (1, [-1]), (2, [1]))
        for row in wrong:
            self.assert_refused(NotShown, hall_with(n3=GOOD), "vouch", 3, [row, (1, [1])])
            self.assert_refused(NotShown, hall_with(n3=GOOD), "vouch", 3, [(1, [1]), row])
        self.assert_refused(NotShown, hall_with(n3=HARD), "vouch", 3, GOOD_ROWS)
        self.assert_refused(NotShown, hall_with(n3=HARD), "vouch", 3, list(reversed(HARD_ROWS)))

    def test_a_refused_vouching_leaves_what_is_held(self):
        hall = all_held(hall_with(n3=GOOD, n4=caller(3), n5=SILENT))
        for number in (3, 4, 5):
            self.assert_refused(NotShown, hall, "vouch", number, [(1, [5])])
        self.assert_held(hall, 3, 4, 5)

    def test_what_a_seeking_did_not_find_is_not_shown(self):
        hall = hall_with(n3=HARD)
        self.assert_refused(NotShown, hall, "vouch", 3, hall.seek(3))

    def test_what_a_seeking_found_is_shown(self):
        hall, other = hall_with(n3=GOOD, n4=caller(3)), hall_with(n3=GOOD, n4=caller(3))
        other.vouch(4, hall.seek(4))
        self.assert_held(other, 4)

    def test_where_no_craft_stands(self):
        hall = all_held(hall_with(n3=GOOD))
        for number in (0, 4, 99, 100, -1):
            self.assert_refused(NoCraft, hall, "vouch", number, [])
            self.assert_refused(NoCraft, hall, "vouch", number, GOOD_ROWS)
            self.assert_refused(NoCraft, hall, "seek", number)

    def test_an_unmet_craft(self):
        hall = all_held(hall_with(n3=GOOD, n5=SILENT))
        hall.lay(4, caller(3, 9))
        for rows in ([], [(1, [1])] * 5, [(1, [7])]):
            self.assert_refused(Unmet, hall, "vouch", 4, rows)
        self.assert_refused(Unmet, hall, "seek", 4)
        self.assert_held(hall, 3, 5)
        hall.lay(9, GOOD)
        hall.seek(4)
        self.assert_held(hall, 3, 4, 5)

    def test_unmet_and_held_at_once_cannot_be(self):
        hall = all_held(hall_with(n3=GOOD, n4=caller(3)))
        hall.tear(3)
        self.assert_refused(Unmet, hall, "vouch", 4, [])
        self.assert_refused(Unmet, hall, "seek", 4)
        self.assert_held(hall)


class Seeking(HallTest):
    def test_tells_a_row_for_each_duty_and_holds_the_craft(self):
        hall = hall_with(n3=GOOD, n4=caller(3), n5=SILENT)
        self.assertEqual(hall.seek(3), GOOD_ROWS)
        self.assert_held(hall, 3)
        self.assertEqual(hall.seek(4), [(1, [1]), (1, [1]), (1, [0, 1])])
        self.assert_held(hall, 3, 4)
        self.assertEqual(hall.seek(5), [])
        self.assert_held(hall, 3, 4, 5)

    def test_tells_none_where_there_is_none_and_holds_nothing(self):
        hall = hall_with(n3=HARD, n4=FALSE, n5=oathed(("set", 0, line(-1)), note=line(-1)))
        self.assertEqual(hall.seek(3), [(1, [1]), None])
        self.assertEqual(hall.seek(4), [(1, [1]), None])
        self.assertEqual(hall.seek(5), [None, (1, [1])])
        self.assert_held(hall)

    def test_what_was_held_stays_so_behind_a_seeking_with_a_none(self):
        hall = hall_with(n3=HARD, n4=caller(3))
        hall.vouch(3, HARD_ROWS)
        hall.seek(4)
        self.assertEqual(hall.seek(3), [(1, [1]), None])
        self.assert_held(hall, 3, 4)

    def test_again_and_again(self):
        hall = hall_with(n3=GOOD)
        for _ in range(3):
            self.assertEqual(hall.seek(3), GOOD_ROWS)
            self.assert_held(hall, 3)

    def test_the_oath_of_the_called_craft_counts_not_whether_it_is_held(self):
        hall = hall_with(n3=FALSE, n4=caller(3))
        hall.seek(4)
        self.assert_held(hall, 4)


class Held(HallTest):
    def test_laid_anew_as_it_was_it_is_held_no_more_and_its_callers_are(self):
        hall = all_held(hall_with(n3=GOOD, n4=caller(3), n5=caller(4)))
        hall.lay(3, GOOD)
        self.assert_held(hall, 4, 5)
        hall.lay(4, caller(3))
        self.assert_held(hall, 5)
        hall.seek(3)
        self.assert_held(hall, 3, 5)

    def test_laid_anew_with_the_same_oath_and_other_deeds_and_notes(self):
        hall = all_held(hall_with(n3=GOOD, n4=caller(3)))
        for craft in (FALSE, HARD, craft_of([PLAIN_DEED] * 2, [NEED], [LEAVE])):
            hall.lay(3, craft)
            self.assert_held(hall, 4)

    def test_laid_anew_with_another_oath(self):
        need, leave = line(5, a1=1), line(6, l1=1)
        other_need, other_leave = line(6, a1=1), line(6, a0=1, l1=1)
        oath = ([NEED, need], [LEAVE, leave])
        others = [
            ([], [LEAVE, leave]), ([NEED], [LEAVE, leave]), ([need], [LEAVE, leave]), ([need, NEED], [LEAVE, leave]),
            ([NEED, other_need], [LEAVE, leave]), ([NEED, NEED], [LEAVE, leave]),
            ([NEED, need], []), ([NEED, need], [LEAVE]), ([NEED, need], [leave]), ([NEED, need], [leave, LEAVE]),
            ([NEED, need], [LEAVE, other_leave]), ([NEED, need], [LEAVE, LEAVE]), ([], [])]
        for other in others:
            self.assert_callers_let_go(other, oath)
            self.assert_callers_let_go(oath, other)

    def assert_callers_let_go(self, oath, other):
        notes = [[NOTE, line(5, h1=1)]]
        hall = hall_with(n3=craft_of([PLAIN_DEED], *oath), n5=caller(6), n6=GOOD)
        hall.lay(4, craft_of([("call", 3, (0, 1), (0, 1))], [NEED, line(5, a1=1)], notes=notes))
        for number in (4, 5, 6):
            hall.seek(number)
        hall.lay(3, craft_of([PLAIN_DEED, PLAIN_DEED], *oath))
        self.assert_held(hall, 4, 5, 6)
        hall.lay(3, craft_of([PLAIN_DEED], *other))
        self.assert_held(hall, 5, 6)

    def test_callers_of_a_craft_laid_anew_with_another_oath(self):
        hall = all_held(hall_with(n3=GOOD, n4=caller(3), n5=caller(4), n6=caller(9, 3), n9=GOOD, n7=caller(9)))
        self.assert_held(hall, 3, 4, 5, 6, 7, 9)
        hall.lay(3, oathed(("set", 0, line(1, h0=1)), needs=[NEED, NEED]))
        self.assert_held(hall, 5, 7, 9)
        hall.seek(4)
        self.assert_held(hall, 4, 5, 7, 9)

    def test_laid_back_with_the_first_oath_its_callers_are_not_held_again(self):
        hall = all_held(hall_with(n3=GOOD, n4=caller(3)))
        hall.lay(3, SILENT)
        hall.lay(3, GOOD)
        self.assert_held(hall)

    def test_torn_its_callers_are_held_no_more(self):
        hall = all_held(hall_with(n3=GOOD, n4=caller(3), n5=caller(4), n6=caller(9, 3), n9=GOOD, n7=caller(9)))
        hall.tear(3)
        self.assert_held(hall, 5, 7, 9)
        hall.lay(3, GOOD)
        self.assert_held(hall, 5, 7, 9)

    def test_held_again_only_from_a_vouching_or_a_seeking_on(self):
        for again in (lambda hall: hall.seek(4), lambda hall: hall.vouch(4, [(1, [1]), (1, [1]), (1, [0, 1])])):
            hall = all_held(hall_with(n3=GOOD, n4=caller(3)))
            hall.tear(3)
            hall.lay(3, GOOD)
            hall.seek(3)
            self.assert_held(hall, 3)
            again(hall)
            self.assert_held(hall, 3, 4)

    def test_torn_and_laid_again_it_is_not_held(self):
        hall = all_held(hall_with(n3=GOOD, n4=SILENT))
        hall.tear(3)
        self.assert_held(hall, 4)
        hall.lay(3, GOOD)
        self.assert_held(hall, 4)

    def test_a_craft_that_calls_itself(self):
        hall = all_held(hall_with(n3=caller(3), n4=caller(3)))
        self.assert_held(hall, 3, 4)
        hall.lay(3, caller(3))
        self.assert_held(hall, 4)
        hall.seek(3)
        hall.lay(3, craft_of([("call", 3, (0, 1), (0, 1))], [], [LEAVE]))
        self.assert_held(hall)
        hall.lay(3, caller(3))
        all_held(hall)
        hall.tear(3)
        self.assert_held(hall)

    def test_what_a_caller_called_before_counts_no_more(self):
        hall = all_held(hall_with(n3=GOOD, n5=GOOD, n4=caller(3)))
        hall.lay(4, caller(5))
        hall.seek(4)
        hall.tear(3)
        self.assert_held(hall, 4, 5)

    def test_a_craft_that_is_called_by_none_touches_none(self):
        hall = all_held(hall_with(n3=GOOD, n4=caller(3), n5=SILENT))
        hall.lay(5, GOOD)
        hall.tear(5)
        self.assert_held(hall, 3, 4)


class ReachAndSworn(HallTest):
    def test_where_no_craft_stands(self):
        for number in (-1, 0, 50, 99, 100):
            self.assertEqual(Hall().reach(number), [number])
            self.assertIs(Hall().sworn(number), False)
            self.assertIs(Hall().held(number), False)

    def test_of_a_craft_that_calls_none(self):
        hall = hall_with(n3=GOOD, n4=GOOD)
        self.assertEqual(hall.reach(3), [3])

    def test_of_a_craft_that_calls_itself(self):
        hall = hall_with(n3=caller(3))
        self.assertEqual(hall.reach(3), [3])
        hall.seek(3)
        self.assertIs(hall.sworn(3), True)

    def test_of_calls_of_calls_rising(self):
        hall = hall_with(n50=caller(7, 99), n7=caller(0), n99=caller(20, 7), n0=GOOD, n20=GOOD, n8=GOOD)
        self.assertEqual(hall.reach(50), [0, 7, 20, 50, 99])
        self.assertEqual(hall.reach(99), [0, 7, 20, 99])
        self.assertEqual(hall.reach(7), [0, 7])
        self.assertEqual(hall.reach(8), [8])

    def test_of_crafts_in_a_ring(self):
        hall = hall_with(n9=caller(5), n5=caller(7), n7=caller(9), n4=caller(7))
        for number in (9, 5, 7):
            self.assertEqual(hall.reach(number), [5, 7, 9])
        self.assertEqual(hall.reach(4), [4, 5, 7, 9])
        all_held(hall)
        for number in (4, 5, 7, 9):
            self.assertIs(hall.sworn(number), True)

    def test_of_a_row_of_a_hundred(self):
        hall = Hall()
        for number in range(99):
            hall.lay(number, caller(number + 1))
        hall.lay(99, GOOD)
        self.assertEqual(hall.reach(0), list(range(100)))
        self.assertEqual(hall.reach(60), list(range(60, 100)))
        all_held(hall)
        self.assertIs(hall.sworn(0), True)
        hall.lay(99, GOOD)
        self.assertIs(hall.sworn(0), False)
        self.assertIs(hall.held(0), True)

    def test_of_calls_of_numbers_where_none_stands(self):
        hall = hall_with(n3=caller(4, 90))
        self.assertEqual(hall.reach(3), [3, 4, 90])
        hall.lay(90, caller(80))
        self.assertEqual(hall.reach(3), [3, 4, 80, 90])
        hall.tear(90)
        self.assertEqual(hall.reach(3), [3, 4, 90])

    def test_sworn_where_all_of_the_reach_are_held(self):
        hall = hall_with(n3=caller(4), n4=caller(5), n5=GOOD)
        for number, sworn in ((3, []), (4, []), (5, [3, 4, 5])):
            hall.seek(number)
            self.assertEqual([other for other in range(101) if hall.sworn(other)], sworn)

    def test_not_sworn_where_one_is_not_held(self):
        hall = hall_with(n3=caller(4), n4=FALSE)
        hall.seek(3)
        self.assertIs(hall.held(3), True)
        self.assertIs(hall.sworn(3), False)

    def test_not_sworn_where_one_does_not_stand(self):
        hall = all_held(hall_with(n3=caller(4), n4=caller(5), n5=GOOD))
        self.assertIs(hall.sworn(3), True)
        hall.tear(5)
        self.assertIs(hall.held(3), True)
        for number in (3, 4, 5):
            self.assertIs(hall.sworn(number), False)

    def test_true_or_false_at_any_number(self):
        hall = all_held(hall_with(n3=GOOD, n0=SILENT, n99=FALSE))
        for number in range(-1, 101):
            self.assertIs(hall.sworn(number), number in (0, 3))
            self.assertIs(hall.held(number), number in (0, 3))


class Model:
    """Tells what is held by what has not changed since it was shown, rather than by what lets it go."""

    def __init__(self):
        self.laid, self.times, self.oaths, self.seen = {}, {}, {}, {}

    def calls(self, number):
        return [deed[1] for deed in self.laid[number].deeds if deed[0] == "call"]

    def lay(self, number, craft):
        if number in self.laid and fields(self.laid[number])[:2] != fields(craft)[:2]:
            self.oaths[number] = self.oaths.get(number, 0) + 1
        self.times[number] = self.times.get(number, 0) + 1
        self.laid[number] = craft

    def tear(self, number):
        self.oaths[number] = self.oaths.get(number, 0) + 1
        self.times[number] = self.times.get(number, 0) + 1
        self.laid.pop(number)

    def sight(self, number):
        return self.times[number], [self.oaths.get(other, 0) for other in self.calls(number)]

    def hold(self, number):
        self.seen[number] = self.sight(number)

    def held(self, number):
        return number in self.laid and self.seen.get(number) == self.sight(number)


class Strewings(unittest.TestCase):
    def test_what_is_held_after_many_layings_tearings_and_seekings(self):
        choices = [
            GOOD, HARD, FALSE, SILENT, caller(0), caller(1), caller(2), caller(3, 0), caller(1, 2),
            oathed(("set", 0, line(1, h0=1)), needs=[NEED, NEED]),
            craft_of([("call", 1, (0, 1), (0, 1))]), craft_of([("call", 2, (0, 1), (0, 1))])]
        ever_held = 0
        for seed in range(40):
            strewn, hall, model = Strewn(seed), Hall(), Model()
            for _ in range(60):
                number, deed = strewn.below(4), strewn.below(6)
                stands = number in model.laid
                if deed <= 1:
                    craft = strewn.one_of(choices)
                    hall.lay(number, craft)
                    model.lay(number, craft)
                elif deed == 2 and stands:
                    hall.tear(number)
                    model.tear(number)
                elif stands and all(other in model.laid for other in model.calls(number)):
                    if None not in hall.seek(number):
                        model.hold(number)
                held = [hall.held(other) for other in range(4)]
                self.assertEqual(held, [model.held(other) for other in range(4)])
                ever_held = ever_held + sum(held)
        self.assertGreater(ever_held, 1000)


class OwnLists(HallTest):
    def setUp(self):
        self.deeds = [
            ("hold", line(1)), ("turn", line(-1), 6), ("part", 1, line(h1=1), 2), ("draw", 1, 4, 5),
            ("call", 7, (0, 1), (2, 3)), ("set", 1, line(2))]
        self.handed = [[NEED, line(1)], [LEAVE, line(2)], self.deeds, [[NOTE, line(3)] for _ in self.deeds]]
        self.handed = copy.deepcopy(self.handed)
        self.craft = Craft(*self.handed)
        self.hall = hall_with(n7=GOOD)
        self.hall.lay(3, self.craft)
        all_held(self.hall)
        self.before = copy.deepcopy((told_by(self.hall), self.hall.seek(3), self.hall.seek(7)))

    def assert_as_before(self):
        self.assertEqual((told_by(self.hall), self.hall.seek(3), self.hall.seek(7)), self.before)
        self.assert_held(self.hall, 3, 7)

    def test_nothing_handed_in_is_changed(self):
        self.assert_as_before()
        self.assertEqual(fields(self.craft), self.handed)
        rows = self.hall.seek(3)
        kept = copy.deepcopy(rows)
        self.hall.vouch(3, rows)
        self.assertEqual(rows, kept)
        self.hall.lay(3, self.craft)
        self.hall.tear(3)
        self.assertEqual(fields(self.craft), self.handed)

    def test_what_was_laid_may_be_changed(self):
        spoil(self.handed)
        spoil(self.craft)
        self.craft.needs = [line(5)]
        self.craft.deeds = []
        self.assert_as_before()

    def test_rows_may_be_changed_behind_the_vouching(self):
        rows = self.hall.seek(3)
        self.hall.lay(3, self.craft)
        self.hall.vouch(3, rows)
        spoil(rows)
        self.assert_as_before()

    def test_what_was_told_may_be_changed(self):
        spoil(self.hall.standing())
        spoil(self.hall.reach(3))
        spoil(self.hall.reach(50))
        spoil(self.hall.seek(3))
        self.assert_as_before()

    def test_crafts_that_were_told_may_be_changed(self):
        told = self.hall.crafts()
        spoil(told)
        for craft in told.values():
            craft.needs = []
            craft.notes = [[]]
        told.pop(7)
        told[50] = GOOD
        self.assert_as_before()

    def test_a_told_craft_changed_and_laid_anew_is_another_one(self):
        craft = self.hall.crafts()[7]
        craft.leaves.append(line(4))
        self.assert_as_before()
        self.hall.lay(7, craft)
        self.assert_held(self.hall)

    def test_no_two_lists_are_one(self):
        hall = self.hall
        told = [
            self.craft, hall.crafts(), hall.crafts(), hall.standing(), hall.standing(), hall.reach(3),
            hall.reach(3), hall.seek(3), hall.seek(3), hall.laid]
        marks = [id(part) for value in told for part in lists_in(value)]
        self.assertEqual(len(marks), len(set(marks)))
        self.assertIsNot(hall.crafts(), hall.crafts())
        self.assertIsNot(hall.crafts()[3], hall.crafts()[3])

    def test_one_craft_laid_twice_is_two(self):
        hall = hall_with(n1=GOOD, n2=GOOD)
        crafts = hall.crafts()
        spoil(crafts[1])
        self.assertEqual(fields(crafts[2]), fields(GOOD))

    def test_kinds(self):
        hall = self.hall
        self.assertIs(type(hall.standing()), list)
        self.assertIs(type(hall.reach(3)), list)
        self.assertIs(type(hall.seek(3)), list)
        self.assertIs(type(hall.crafts()), dict)
        for row in hall.seek(3):
            self.assertEqual([type(row), type(row[0]), type(row[1])], [tuple, int, list])
        for craft in hall.crafts().values():
            self.assertIs(type(craft), Craft)
        told = [hall.standing(), hall.reach(3), hall.seek(3), list(hall.crafts())]
        self.assertEqual({type(number) for number in numbers_in(told)}, {int})

    def test_arguments_by_name(self):
        hall = Hall()
        hall.lay(number=3, craft=GOOD)
        hall.vouch(number=3, rows=GOOD_ROWS)
        self.assertEqual(hall.seek(number=3), GOOD_ROWS)
        told = (hall.held(number=3), hall.sworn(number=3), hall.reach(number=3))
        self.assertEqual(told, (True, True, [3]))
        hall.tear(number=3)
        self.assertEqual(hall.standing(), [])


if __name__ == "__main__":
    unittest.main()
