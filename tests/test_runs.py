"""Points 1 and 13 to 16: runs."""

import copy
import unittest

from helping import NOUGHTS, Strewn, craft_of, fields, line, lists_in, numbers_in, spoil, strewn_craft
from playing import played
from swornhall.errors import HallError, NoCraft, Unfit
from swornhall.hall import Hall
from swornhall.runs import Run

BILLION = 10 ** 9
PLAIN_DEED = ("set", 3, NOUGHTS)
KEEP = ("set", 0, line(h0=1))
SILENT = craft_of([PLAIN_DEED])
# Counts hand 0 down to nought, a frame for each number.
DOWN = craft_of([("turn", line(h0=-1), 3), ("set", 0, line(-1, h0=1)), ("call", 1, (0, 1), (0, 1))])


def hall_of(crafts):
    hall = Hall()
    for number, craft in crafts.items():
        hall.lay(number, craft)
    return hall


def begun(crafts, given=(0, 0), inputs=(), number=1):
    return Run(hall_of(crafts), number, given, list(inputs))


def ran(crafts, given=(0, 0), inputs=(), number=1, fuel=400):
    run = begun(crafts, given, inputs, number)
    return run.go(fuel), run.steps(), run.frames()


def ran_deeds(*deeds, given=(0, 0), inputs=(), notes=None, needs=(), leaves=()):
    return ran({1: craft_of(deeds, needs, leaves, notes)}, given, inputs)


class Deeds(unittest.TestCase):
    def test_set(self):
        worth = line(10, h0=1, h1=2, h2=100, h3=100, a0=3, a1=4)
        for hand in range(4):
            deeds = [("set", hand, worth), ("set", 0, line(**{f"h{hand}": 1})), ("set", 1, line(-9))]
            self.assertEqual(ran_deeds(*deeds, given=(5, 7)), (("done", 72, -9), 3, []))

    def test_set_each_number_of_a_line(self):
        before = [("set", 2, line(11)), ("set", 3, line(13))]
        for spot, number in (("h0", 5), ("h1", 7), ("h2", 11), ("h3", 13), ("a0", 5), ("a1", 7)):
            told = ran_deeds(*before, ("set", 0, line(100, **{spot: -2})), given=(5, 7))
            self.assertEqual(told, (("done", 100 - 2 * number, 7), 3, []))

    def test_the_hands_begin_as_the_asked_and_nought(self):
        self.assertEqual(ran_deeds(PLAIN_DEED, given=(5, -7))[0], ("done", 5, -7))
        deeds = [("set", 0, line(h2=1)), ("set", 1, line(h3=1))]
        self.assertEqual(ran_deeds(*deeds, given=(5, -7))[0], ("done", 0, 0))

    def test_the_asked_stay_where_the_hands_change(self):
        deeds = [("set", 0, line(50)), ("set", 1, line(60)), ("set", 0, line(a0=1)), ("set", 1, line(a1=1))]
        self.assertEqual(ran_deeds(*deeds, given=(5, -7))[0], ("done", 5, -7))

    def test_part(self):
        for by, worth, wanted in (
                (2, 7, 3), (2, 6, 3), (2, 1, 0), (2, 0, 0), (2, -1, -1), (2, -7, -4), (2, -8, -4), (2, -9, -5),
                (1, 5, 5), (1, -5, -5), (3, -1, -1), (3, -3, -1), (3, -4, -2), (1000, 999, 0), (1000, 1000, 1),
                (1000, -1, -1), (1000, -1000, -1), (1000, -1001, -2), (7, 10 ** 18 - 1, 142857142857142857)):
            told = ran_deeds(("part", 0, line(1, a1=1), by), given=(44, worth - 1))
            self.assertEqual(told, (("done", wanted, worth - 1), 1, []))

    def test_part_into_each_hand(self):
        for hand in range(4):
            deeds = [("part", hand, line(-9), 2), ("set", 0, line(**{f"h{hand}": 1})), ("set", 1, line(2))]
            self.assertEqual(ran_deeds(*deeds)[0], ("done", -5, 2))

    def test_draw(self):
        for low, high in ((-3, 8), (4, 4), (-BILLION, BILLION)):
            for drawn in (low, high):
                told = ran_deeds(("draw", 0, low, high), given=(77, 1), inputs=[drawn])
                self.assertEqual(told, (("done", drawn, 1), 1, []))
            for drawn in (low - 1, high + 1, 10 ** 18 - 1, 1 - 10 ** 18):
                told = ran_deeds(("draw", 0, low, high), given=(77, 1), inputs=[drawn])
                self.assertEqual(told, (("stray",), 1, [(1, 0)]))

    def test_draw_takes_the_inputs_one_by_one(self):
        deeds = [("draw", 3, 0, 9), ("draw", 1, 0, 9), ("draw", 0, 0, 9)]
        self.assertEqual(ran_deeds(*deeds, inputs=[5, 6, 7])[0], ("done", 7, 6))
        self.assertEqual(ran_deeds(*deeds, inputs=[5, 6, 7, 8])[0], ("done", 7, 6))
        self.assertEqual(ran_deeds(*deeds, inputs=[5, 6]), (("dry",), 3, [(1, 2)]))
        self.assertEqual(ran_deeds(*deeds, inputs=[]), (("dry",), 1, [(1, 0)]))
        self.assertEqual(ran_deeds(*deeds, inputs=[5, 10, 7]), (("stray",), 2, [(1, 1)]))

    def test_a_called_frame_draws_from_the_same_inputs(self):
        crafts = {
            1: craft_of([("draw", 2, 0, 9), ("call", 2, (0, 0), (1, 3)), ("draw", 0, 0, 9)]),
            2: craft_of([("draw", 0, 0, 9)])}
        self.assertEqual(ran(crafts, inputs=[4, 5, 6])[0], ("done", 6, 5))

    def test_turn(self):
        deeds = [("turn", line(a0=1), 2), ("set", 1, line(50)), ("set", 0, line(60))]
        for given, wanted in ((1, (("done", 60, 0), 2, [])), (0, (("done", 60, 0), 2, [])),
                              (-1, (("done", 60, 50), 3, []))):
            self.assertEqual(ran_deeds(*deeds, given=(given, 0)), wanted)

    def test_turn_behind_the_last_deed(self):
        deeds = [("turn", line(a0=1), 2), ("set", 1, line(50))]
        self.assertEqual(ran_deeds(*deeds), (("done", 0, 0), 1, []))
        self.assertEqual(ran_deeds(*deeds, given=(-1, 0)), (("done", -1, 50), 2, []))

    def test_turn_backward(self):
        deeds = [("set", 1, line(2, h1=1)), ("set", 0, line(-1, h0=1)), ("turn", line(-1, h0=1), 0)]
        self.assertEqual(ran_deeds(*deeds, given=(5, 0)), (("done", 0, 10), 15, []))

    def test_turn_to_its_own_place(self):
        self.assertEqual(ran_deeds(("turn", line(0), 0)), (("cut",), 400, [(1, 0)]))

    def test_hold(self):
        for worth in (0, 1, BILLION):
            self.assertEqual(ran_deeds(("hold", line(a1=1)), given=(3, worth)), (("done", 3, worth), 1, []))
        for worth in (-1, -2, -BILLION):
            told = ran_deeds(PLAIN_DEED, ("hold", line(a1=1)), given=(3, worth))
            self.assertEqual(told, (("broken", "hold", 1, 1, 0), 2, [(1, 1)]))

    def test_numbers_grow_as_they_will(self):
        deeds = [("set", 0, line(0, h0=BILLION)), ("turn", NOUGHTS, 0)]
        run = begun({1: craft_of(deeds + [PLAIN_DEED])}, (1, 0))
        self.assertEqual(run.go(399), ("cut",))
        crafts = {1: craft_of([("set", 0, line(1, h0=BILLION))] * 8)}
        wanted = 10 ** 17
        for _ in range(8):
            wanted = wanted * BILLION + 1
        self.assertEqual(ran(crafts, (10 ** 17, 0))[0], ("done", wanted, 0))


class Calls(unittest.TestCase):
    def test_given_and_taken(self):
        called = craft_of([("set", 0, line(100, a0=1)), ("set", 1, line(200, a1=1))])
        for given in [(one, other) for one in range(4) for other in range(4)]:
            for taken in [(one, other) for one in range(4) for other in range(4) if one != other]:
                hands = [5, 6, 7, 8]
                wanted = list(hands)
                wanted[taken[0]] = 100 + hands[given[0]]
                wanted[taken[1]] = 200 + hands[given[1]]
                before = [("set", 2, line(7)), ("set", 3, line(8)), ("call", 2, given, taken)]
                for told in (0, 1, 2, 3):
                    deeds = before + [("set", 0, line(**{f"h{told}": 1}))]
                    self.assertEqual(ran({1: craft_of(deeds), 2: called}, (5, 6))[0][1], wanted[told])

    def test_the_caller_keeps_its_asked_and_its_other_hands(self):
        deeds = [("set", 2, line(30)), ("call", 2, (2, 2), (1, 3)), ("set", 0, line(h0=1, h2=1000, a0=100000))]
        crafts = {1: craft_of(deeds), 2: craft_of([("set", 2, line(-1)), ("set", 0, line(9)), ("set", 1, line(8))])}
        self.assertEqual(ran(crafts, (5, 6))[0], ("done", 5 + 30000 + 500000, 9))

    def test_a_frame_that_leaves_brings_the_one_beneath_on(self):
        # Three frames are gone in one step: the calls stand last in their crafts.
        crafts = {
            1: craft_of([("call", 2, (0, 1), (1, 0))]), 2: craft_of([("call", 3, (0, 1), (1, 0))]),
            3: craft_of([KEEP, KEEP])}
        run = begun(crafts, (5, 6))
        for steps, told, frames in (
                (0, ("cut",), [(1, 0)]), (1, ("cut",), [(1, 0), (2, 0)]), (2, ("cut",), [(1, 0), (2, 0), (3, 0)]),
                (3, ("cut",), [(1, 0), (2, 0), (3, 1)]), (4, ("done", 5, 6), []), (4, ("done", 5, 6), [])):
            self.assertEqual((run.go(0), run.steps(), run.frames()), (told, steps, frames))
            run.go(1)

    def test_the_frame_beneath_stands_at_its_call(self):
        crafts = {1: craft_of([KEEP, KEEP, ("call", 2, (0, 1), (2, 3)), KEEP]), 2: craft_of([KEEP, KEEP])}
        run = begun(crafts)
        frames = []
        while run.go(1) == ("cut",):
            frames.append(run.frames())
        self.assertEqual(frames, [
            [(1, 1)], [(1, 2)], [(1, 2), (2, 0)], [(1, 2), (2, 1)], [(1, 3)]])
        self.assertEqual((run.steps(), run.frames()), (6, []))

    def test_of_itself(self):
        self.assertEqual(ran({1: DOWN}, (3, 7)), (("done", 0, 7), 10, []))

    def test_lost(self):
        crafts = {1: craft_of([KEEP, ("call", 2, (0, 1), (0, 1))])}
        self.assertEqual(ran(crafts), (("lost",), 2, [(1, 1)]))
        crafts = {1: craft_of([("call", 2, (0, 1), (0, 1))]), 2: craft_of([KEEP, ("call", 3, (0, 1), (0, 1))])}
        self.assertEqual(ran(crafts), (("lost",), 3, [(1, 0), (2, 1)]))

    def test_deep(self):
        crafts = {1: craft_of([("call", 1, (0, 1), (0, 1))])}
        self.assertEqual(ran(crafts), (("deep",), 20, [(1, 0)] * 20))
        self.assertEqual(ran(crafts, fuel=19), (("cut",), 19, [(1, 0)] * 20))

    def test_twenty_frames_are_not_deep_and_one_more_is(self):
        self.assertEqual(ran({1: DOWN}, (19, 0)), (("done", 0, 0), 58, []))
        self.assertEqual(ran({1: DOWN}, (20, 0)), (("deep",), 60, [(1, 2)] * 20))

    def test_frames_that_are_gone_count_no_more(self):
        deeds = [("call", 2, (0, 1), (2, 3)), ("set", 0, line(-1, h0=1)), ("turn", line(-1, h0=1), 0)]
        self.assertEqual(ran({1: craft_of(deeds), 2: SILENT}, (50, 0)), (("done", 0, 0), 200, []))

    def test_lost_ahead_of_deep_and_deep_ahead_of_needs(self):
        deeds = [
            ("turn", line(h0=-1), 4), ("set", 0, line(-1, h0=1)), ("call", 1, (0, 1), (0, 1)),
            ("turn", NOUGHTS, 5), ("call", 2, (0, 1), (0, 1))]
        crafts = {1: craft_of(deeds)}
        self.assertEqual(ran(crafts, (19, 0)), (("lost",), 59, [(1, 2)] * 19 + [(1, 4)]))
        crafts[2] = craft_of([PLAIN_DEED], needs=[line(-1)])
        self.assertEqual(ran(crafts, (19, 0)), (("deep",), 59, [(1, 2)] * 19 + [(1, 4)]))
        told = (("broken", "needs", 1, 4, 0), 56, [(1, 2)] * 18 + [(1, 4)])
        self.assertEqual(ran(crafts, (18, 0)), told)


class Broken(unittest.TestCase):
    def test_notes_at_the_beginning_ahead_of_any_step(self):
        for notes, spot in (([line(-1)], 0), ([line(a0=1), line(h1=1)], 1), ([line(-1), line(-1)], 0),
                            ([line(0), line(-1, h2=1, h3=1)], 1), ([line(-4, h0=1), line(-1)], 0)):
            run = begun({1: craft_of([PLAIN_DEED], notes=[notes])}, (3, -4))
            for fuel in (0, 0, 1, 400):
                told = (run.go(fuel), run.steps(), run.frames())
                self.assertEqual(told, (("broken", "notes", 1, 0, spot), 0, [(1, 0)]))

    def test_notes_are_met_with_hands_and_asked(self):
        for note, holds in ((line(-3, h0=1), True), (line(-4, h0=1), False), (line(-4, h1=-1), True),
                            (line(-5, h1=-1), False), (line(h2=1, h3=1), True), (line(-1, h2=5, h3=5), False),
                            (line(-3, a0=1), True), (line(-4, a0=1), False), (line(4, a1=1), True),
                            (line(3, a1=1), False)):
            told = ran_deeds(PLAIN_DEED, notes=[[note]], given=(3, -4))
            self.assertEqual(told[0], ("done", 3, -4) if holds else ("broken", "notes", 1, 0, 0))

    def test_notes_at_the_place_that_a_step_comes_to(self):
        deeds = [("set", 0, line(-5)), KEEP, KEEP]
        for first, second, spot in ((line(h0=1), line(0), 0), (line(0), line(h0=1), 1), (line(h0=1), line(-9), 0)):
            told = ran_deeds(*deeds, notes=[[line(h0=1)], [], [first, second]])
            self.assertEqual(told, (("broken", "notes", 1, 2, spot), 2, [(1, 2)]))

    def test_notes_of_a_place_that_is_turned_past_are_not_met(self):
        deeds = [("turn", line(a0=1), 2), KEEP, KEEP]
        notes = [[], [line(-1)], []]
        self.assertEqual(ran_deeds(*deeds, notes=notes), (("done", 0, 0), 2, []))
        told = ran_deeds(*deeds, notes=notes, given=(-1, 0))
        self.assertEqual(told, (("broken", "notes", 1, 1, 0), 1, [(1, 1)]))

    def test_notes_at_the_place_that_is_turned_to(self):
        deeds = [KEEP, ("set", 0, line(-1, h0=1)), ("turn", line(0), 0)]
        told = ran_deeds(*deeds, notes=[[line(-3, h0=1)], [], []], given=(5, 0))
        self.assertEqual(told, (("broken", "notes", 1, 0, 0), 9, [(1, 0)]))

    def test_notes_where_a_called_frame_begins(self):
        crafts = {
            1: craft_of([KEEP, ("call", 2, (0, 1), (0, 1))]),
            2: craft_of([KEEP], notes=[[line(0), line(h1=1)]])}
        told = ran(crafts, (0, -1))
        self.assertEqual(told, (("broken", "notes", 2, 0, 1), 2, [(1, 1), (2, 0)]))

    def test_notes_behind_a_call(self):
        crafts = {
            1: craft_of([("call", 2, (0, 1), (2, 3)), KEEP], notes=[[], [line(h3=1), line(h2=1)]]),
            2: craft_of([("set", 0, line(-1))])}
        self.assertEqual(ran(crafts), (("broken", "notes", 1, 1, 1), 2, [(1, 1)]))

    def test_leaves(self):
        for leaves, spot in (([line(l0=1)], 0), ([line(l1=1), line(l0=1)], 1), ([line(-10, a0=1)], 0),
                             ([line(-1, a1=-1), line(-10, l1=1)], 0), ([line(0), line(8, l0=2)], 1)):
            told = ran_deeds(KEEP, ("set", 0, line(-5)), leaves=leaves, given=(9, 4))
            self.assertEqual(told, (("broken", "leaves", 1, 2, spot), 2, [(1, 2)]))

    def test_leaves_that_are_met(self):
        leaves = [line(5, l0=1), line(-13, a0=1, l1=1)]
        told = ran_deeds(KEEP, ("set", 0, line(-5)), leaves=leaves, given=(9, 4))
        self.assertEqual(told, (("done", -5, 4), 2, []))

    def test_leaves_of_a_called_frame(self):
        crafts = {
            1: craft_of([KEEP, ("call", 2, (0, 1), (0, 1))], leaves=[line(-1)]),
            2: craft_of([KEEP, KEEP], leaves=[line(0), line(-1, l0=1)])}
        told = ran(crafts)
        self.assertEqual(told, (("broken", "leaves", 2, 2, 1), 4, [(1, 1), (2, 2)]))
        self.assertEqual(ran(crafts, (1, 0)), (("broken", "leaves", 1, 2, 0), 4, [(1, 2)]))

    def test_leaves_are_met_by_the_asked_of_their_own_frame(self):
        crafts = {
            1: craft_of([("set", 0, line(8)), ("call", 2, (0, 0), (0, 1))]),
            2: craft_of([("set", 0, line(3))], leaves=[line(-8, a0=1), line(-8, a1=1)])}
        self.assertEqual(ran(crafts)[0], ("done", 3, 8))

    def test_needs_of_a_called_craft(self):
        for needs, spot in (([line(a0=1)], 0), ([line(a1=1), line(a0=1)], 1), ([line(a1=-1), line(-99)], 0)):
            crafts = {
                1: craft_of([KEEP, ("set", 2, line(-5)), ("call", 2, (2, 1), (0, 1))]),
                2: craft_of([KEEP], needs, notes=[[line(-1)]])}
            told = ran(crafts, (0, 6))
            self.assertEqual(told, (("broken", "needs", 1, 2, spot), 3, [(1, 2)]))

    def test_needs_deeper_down_are_of_the_frame_that_calls(self):
        crafts = {
            1: craft_of([("call", 2, (0, 1), (0, 1))]), 2: craft_of([KEEP, ("call", 3, (0, 1), (0, 1))]),
            3: craft_of([KEEP], [line(a0=1)])}
        told = ran(crafts, (-1, 0))
        self.assertEqual(told, (("broken", "needs", 2, 1, 0), 3, [(1, 0), (2, 1)]))

    def test_needs_that_are_just_met(self):
        crafts = {1: craft_of([("call", 2, (1, 0), (0, 1))]), 2: craft_of([KEEP], [line(-6, a0=1), line(5, a1=1)])}
        self.assertEqual(ran(crafts, (-5, 6))[0], ("done", 6, -5))

    def test_hold_in_a_called_frame(self):
        crafts = {1: craft_of([("call", 2, (0, 1), (0, 1))]), 2: craft_of([KEEP, ("hold", line(-1))])}
        self.assertEqual(ran(crafts), (("broken", "hold", 2, 1, 0), 3, [(1, 0), (2, 1)]))

    def test_the_notes_at_a_hold_are_met_ahead_of_it(self):
        told = ran_deeds(("hold", line(-1)), notes=[[line(-1)]])
        self.assertEqual(told, (("broken", "notes", 1, 0, 0), 0, [(1, 0)]))


class Beginning(unittest.TestCase):
    def assert_refused(self, error, hall, number, given):
        before = copy.deepcopy([fields(craft) for craft in hall.crafts().values()])
        held = [hall.held(other) for other in range(101)]
        with self.assertRaises(error) as taken:
            Run(hall, number, given, [])
        self.assertIs(type(taken.exception), error)
        self.assertIsInstance(taken.exception, HallError)
        self.assertEqual([fields(craft) for craft in hall.crafts().values()], before)
        self.assertEqual([hall.held(other) for other in range(101)], held)

    def test_where_no_craft_stands(self):
        hall = hall_of({1: SILENT, 5: craft_of([PLAIN_DEED], [line(-1)])})
        hall.seek(1)
        for number in (0, 2, 99, 100, -1):
            self.assert_refused(NoCraft, hall, number, (0, 0))
        hall.tear(5)
        self.assert_refused(NoCraft, hall, 5, (0, 0))

    def test_needs_that_are_not_met(self):
        hall = hall_of({1: craft_of([PLAIN_DEED], [line(-5, a0=1), line(-2, a0=-1, a1=3)], notes=[[line(-1)]])})
        for given, fits in (((5, 3), True), ((4, 3), False), ((5, 2), False), ((7, 3), True), ((8, 3), False),
                            ((4, 0), False), ((10 ** 18 - 1, 10 ** 18 - 1), True)):
            if fits:
                self.assertEqual(Run(hall, 1, given, []).go(0), ("broken", "notes", 1, 0, 0))
            else:
                self.assert_refused(Unfit, hall, 1, given)

    def test_the_needs_of_others_are_not_asked(self):
        crafts = {1: SILENT, 2: craft_of([PLAIN_DEED], [line(-1)])}
        self.assertEqual(ran(crafts), (("done", 0, 0), 1, []))

    def test_what_is_called_need_not_stand_and_nothing_need_be_held(self):
        run = begun({1: craft_of([KEEP, ("call", 2, (0, 1), (0, 1))])})
        self.assertEqual(run.go(1), ("cut",))

    def test_at_any_number(self):
        for number in (0, 1, 99):
            crafts = {number: craft_of([("hold", line(-1))])}
            self.assertEqual(ran(crafts, number=number), (("broken", "hold", number, 0, 0), 1, [(number, 0)]))

    def test_a_new_run_has_done_no_step(self):
        run = begun({1: SILENT})
        self.assertEqual((run.steps(), run.frames()), (0, [(1, 0)]))


class Fuel(unittest.TestCase):
    def test_nought_one_and_more(self):
        crafts = {1: craft_of([KEEP] * 3)}
        self.assertEqual(ran(crafts, fuel=0), (("cut",), 0, [(1, 0)]))
        self.assertEqual(ran(crafts, fuel=1), (("cut",), 1, [(1, 1)]))
        self.assertEqual(ran(crafts, fuel=2), (("cut",), 2, [(1, 2)]))
        self.assertEqual(ran(crafts, fuel=3), (("done", 0, 0), 3, []))
        self.assertEqual(ran(crafts, fuel=4), (("done", 0, 0), 3, []))
        self.assertEqual(ran(crafts, fuel=10 ** 18), (("done", 0, 0), 3, []))

    def test_four_hundred_steps(self):
        run = begun({1: craft_of([KEEP, ("turn", line(0), 0)])})
        self.assertEqual(run.go(399), ("cut",))
        self.assertEqual((run.steps(), run.frames()), (399, [(1, 1)]))
        self.assertEqual(run.go(1), ("cut",))
        self.assertEqual((run.steps(), run.frames()), (400, [(1, 0)]))

    def test_a_step_that_ends_the_run_counts(self):
        for deed, inputs, told in (
                (KEEP, [], ("done", 0, 0)), (("draw", 0, 1, 1), [], ("dry",)), (("draw", 0, 1, 1), [2], ("stray",)),
                (("call", 5, (0, 1), (0, 1)), [], ("lost",)), (("hold", line(-1)), [], ("broken", "hold", 1, 0, 0))):
            run = begun({1: craft_of([deed])}, inputs=inputs)
            self.assertEqual((run.go(0), run.steps()), (("cut",), 0))
            self.assertEqual((run.go(1), run.steps()), (told, 1))

    def test_an_ended_run_stays_ended(self):
        ends = (
            ({1: SILENT}, []), ({1: craft_of([KEEP, ("draw", 0, 1, 1)])}, []),
            ({1: craft_of([KEEP, ("draw", 0, 1, 1), KEEP])}, [2, 1]),
            ({1: craft_of([("call", 2, (0, 1), (0, 1))])}, []),
            ({1: craft_of([("call", 1, (0, 1), (0, 1))])}, []), ({1: craft_of([("hold", line(-1)), KEEP])}, []),
            ({1: craft_of([KEEP, KEEP], notes=[[], [line(-1)]])}, []), ({1: craft_of([KEEP], leaves=[line(-1)])}, []),
            ({1: craft_of([("call", 2, (0, 1), (0, 1)), KEEP]), 2: craft_of([KEEP], [line(-1)])}, []))
        words = []
        for crafts, inputs in ends:
            run = begun(crafts, inputs=inputs)
            told = (run.go(400), run.steps(), run.frames())
            words.append(told[0][:2] if told[0][0] == "broken" else told[0][0])
            for fuel in (0, 1, 5, 400):
                self.assertEqual((run.go(fuel), run.steps(), run.frames()), told)
        self.assertEqual(words, [
            "done", "dry", "stray", "lost", "deep", ("broken", "hold"), ("broken", "notes"), ("broken", "leaves"),
            ("broken", "needs")])


class StrewnRuns(unittest.TestCase):
    def runs(self):
        for seed in range(400):
            strewn = Strewn(seed)
            crafts = {number: strewn_craft(strewn, 9, seed % 3) for number in range(4) if strewn.below(6)}
            hall = hall_of(crafts)
            for number in crafts:
                given = (strewn.between(-9, 9), strewn.between(-9, 9))
                inputs = [strewn.between(-4, 9) for _ in range(strewn.below(9))]
                yield strewn, crafts, hall, number, given, inputs

    def begun_or_unfit(self, hall, number, given, inputs):
        try:
            return Run(hall, number, given, inputs)
        except Unfit:
            return None

    def test_the_same_as_told_another_way(self):
        words = {}
        for strewn, crafts, hall, number, given, inputs in self.runs():
            for fuel in (0, 1, strewn.between(2, 30), 400):
                run = self.begun_or_unfit(hall, number, given, inputs)
                told = "unfit" if run is None else (run.go(fuel), run.steps(), run.frames())
                self.assertEqual(told, played(crafts, number, given, inputs, fuel))
                word = told if run is None else told[0][1] if told[0][0] == "broken" else told[0][0]
                words[word] = words.get(word, 0) + 1
        wanted = "unfit cut done dry stray lost deep notes leaves needs hold".split()
        self.assertEqual([word for word in wanted if words.get(word, 0) < 10], [])

    def test_cut_and_gone_on_with_is_the_same_as_at_once(self):
        for strewn, crafts, hall, number, given, inputs in self.runs():
            at_once = self.begun_or_unfit(hall, number, given, inputs)
            if at_once is None:
                continue
            in_parts, asked = Run(hall, number, given, inputs), 0
            while asked < 100:
                fuel = min(strewn.below(4), 100 - asked)
                asked = asked + fuel
                in_parts.go(fuel)
            self.assertEqual(in_parts.go(0), at_once.go(100))
            self.assertEqual(in_parts.steps(), at_once.steps())
            self.assertEqual(in_parts.frames(), at_once.frames())


class AsItBegan(unittest.TestCase):
    def setUp(self):
        self.handed = {
            1: craft_of([("draw", 2, 0, 9), ("call", 2, (0, 2), (0, 1)), ("hold", line(h0=1))], [line(a0=1)],
                        [line(l0=1)], [[line(h0=1)], [line(h2=1)], [line(h0=1)]]),
            2: craft_of([("set", 0, line(10, h0=1)), ("draw", 1, 0, 9)], [line(a1=1)], [line(l1=1)])}
        self.hall = hall_of(self.handed)
        self.inputs = [4, 5]
        self.wanted = (("done", 13, 5), 5, [])

    def begun(self):
        return Run(self.hall, 1, (3, 0), self.inputs)

    def assert_as_wanted(self, run):
        self.assertEqual((run.go(400), run.steps(), run.frames()), self.wanted)

    def test_unchanged(self):
        self.assert_as_wanted(self.begun())

    def test_a_hall_whose_crafts_are_laid_anew(self):
        for steps in range(5):
            run = self.begun()
            run.go(steps)
            self.hall.lay(1, craft_of([("hold", line(-1))]))
            self.hall.lay(2, craft_of([("hold", line(-1))], [line(-1)]))
            self.assert_as_wanted(run)
            self.setUp()

    def test_a_hall_whose_crafts_are_torn(self):
        for steps in range(5):
            run = self.begun()
            run.go(steps)
            self.hall.tear(2)
            self.hall.tear(1)
            self.assert_as_wanted(run)
            self.setUp()

    def test_a_craft_laid_later_is_not_there(self):
        hall = hall_of({1: craft_of([KEEP, ("call", 2, (0, 1), (0, 1))])})
        run = Run(hall, 1, (0, 0), [])
        hall.lay(2, SILENT)
        self.assertEqual(run.go(400), ("lost",))
        self.assertEqual(Run(hall, 1, (0, 0), []).go(400), ("done", 0, 0))

    def test_what_was_handed_in_changed(self):
        for steps in range(5):
            inputs = list(self.inputs)
            run = Run(self.hall, 1, (3, 0), inputs)
            run.go(steps)
            inputs[0] = -1
            inputs[1] = -1
            inputs.clear()
            spoil(self.handed)
            spoil(self.hall.crafts())
            self.assert_as_wanted(run)
            self.setUp()

    def test_nothing_handed_in_is_changed(self):
        given = (3, 0)
        before = copy.deepcopy([fields(craft) for craft in self.hall.crafts().values()])
        self.hall.seek(2)
        held = [self.hall.held(number) for number in range(5)]
        run = Run(self.hall, 1, given, self.inputs)
        self.assert_as_wanted(run)
        self.assertEqual((given, self.inputs), ((3, 0), [4, 5]))
        self.assertEqual([fields(craft) for craft in self.hall.crafts().values()], before)
        self.assertEqual([self.hall.held(number) for number in range(5)], held)
        self.assertEqual([fields(craft) for craft in self.handed.values()], before)

    def test_two_runs_are_apart(self):
        one, other = self.begun(), self.begun()
        one.go(400)
        self.assertEqual((other.steps(), other.frames()), (0, [(1, 0)]))
        self.assert_as_wanted(other)

    def test_told_frames_may_be_changed(self):
        run = self.begun()
        run.go(3)
        told = run.frames()
        self.assertEqual(told, [(1, 1), (2, 1)])
        told.append((7, 7))
        told[0] = "spoilt"
        self.assertEqual(run.frames(), [(1, 1), (2, 1)])
        self.assertIsNot(run.frames(), run.frames())
        self.assert_as_wanted(run)
        run.frames().append((7, 7))
        self.assertEqual(run.frames(), [])

    def test_told_frames_stay_as_they_were_told(self):
        run = self.begun()
        told = run.frames()
        run.go(400)
        self.assertEqual(told, [(1, 0)])

    def test_kinds(self):
        run = self.begun()
        run.go(3)
        self.assertEqual([type(run.go(0)), type(run.steps()), type(run.frames())], [tuple, int, list])
        self.assertEqual({type(frame) for frame in run.frames()}, {tuple})
        self.assertEqual({type(number) for number in numbers_in([run.frames(), run.steps()])}, {int})
        self.assertEqual({type(number) for number in numbers_in(run.go(400))}, {int})
        broken = begun({1: craft_of([("hold", line(-1))])}).go(400)
        self.assertEqual([type(part) for part in broken], [str, str, int, int, int])
        self.assertEqual(lists_in(broken), [])

    def test_arguments_by_name(self):
        run = Run(hall=self.hall, number=1, given=(3, 0), inputs=self.inputs)
        self.assertEqual(run.go(fuel=400), self.wanted[0])


if __name__ == "__main__":
    unittest.main()
