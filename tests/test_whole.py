"""Points 1 and 12 to 16 over the whole program: a run of a sworn number breaks no word; and the five refusals."""

import itertools
import unittest

from helping import NOUGHTS, Strewn, craft_of, line
from swornhall import errors
from swornhall.crafts import Craft
from swornhall.hall import Hall
from swornhall.lines import holds
from swornhall.runs import Run
from swornhall.vouching import duties

H0, H1, H2 = line(h0=1), line(h1=1), line(h2=1)
NEED0, LEAVE0, LEAVE1 = line(a0=1), line(l0=1), line(l1=1)
# Where hand 0 is nought or less.
SPENT = line(h0=-1)


def call(number, given=(0, 1), taken=(0, 1)):
    return ("call", number, given, taken)


def counting(number):
    """Counts hand 0 down, and calls that number at each count."""
    deeds = [("turn", SPENT, 3), ("set", 0, line(-1, h0=1)), call(number)]
    return craft_of(deeds, [NEED0], [LEAVE0], [[H0], [line(-1, h0=1)], [H0]])


CRAFTS = {
    # Calls itself.
    0: counting(0),
    # Draws a number and halves it; this takes rows with whole 2.
    1: craft_of([("draw", 2, 0, 100), ("part", 0, H2, 2)], [], [LEAVE0, line(50, l0=-1)], [[], [H2, line(100, h2=-1)]]),
    # Two in a ring.
    2: counting(3),
    3: counting(2),
    # Calls the drawing one as often as is asked.
    4: craft_of(
        [("set", 2, H1), ("turn", line(h2=-1), 5), ("set", 2, line(-1, h2=1)), call(1, (0, 1), (0, 3)),
         ("turn", NOUGHTS, 1)],
        [line(a1=1)], [LEAVE1], [[H1], [H2, H1], [line(-1, h2=1), H1], [H2, H1], [H2, H1]]),
    # Holds what it needs, and gives on what it makes of it.
    5: craft_of(
        [("hold", line(h0=1, h1=-1)), ("set", 0, line(h0=1, h1=-1)), call(0, (0, 1), (2, 3)), ("set", 1, H2)],
        [line(a0=1, a1=-1)], [LEAVE0, LEAVE1], [[line(h0=1, h1=-1)], [line(h0=1, h1=-1)], [H0], [H0, H2]]),
    # Calls itself twice with half of what it was asked.
    6: craft_of(
        [("turn", SPENT, 4), ("part", 0, H0, 2), call(6, (0, 0), (2, 3)), call(6, (0, 2), (0, 1))],
        [NEED0], [LEAVE0], [[H0], [line(-1, h0=1)], [H0], [H0]]),
    # Calls others one behind the other, by what they leave.
    7: craft_of(
        [call(1), call(6, (0, 0), (1, 0)), call(5, (1, 2), (3, 1))],
        [], [LEAVE1], [[line(h2=-1)], [H0, line(h2=-1)], [line(h1=1, h2=-1)]]),
}
GIVEN = list(itertools.product((-3, -1, 0, 1, 2, 5, 18, 19, 20, 40), (-2, 0, 1, 3, 7)))
INPUTS = ([], [0], [100, 1, 50], [101], [-1], [7] * 30, [3, 4, 5, 6, 700])


def hall_of(crafts):
    hall = Hall()
    for number, craft in crafts.items():
        hall.lay(number, craft)
    return hall


def meets(lines, asked, left=(0, 0)):
    return all(holds(each, [0, 0, 0, 0] + list(asked) + list(left)) for each in lines)


class WholeTest(unittest.TestCase):
    def assert_no_word_broken(self, hall, number, given, inputs):
        """The word that the run ends with; none where the needs are not met."""
        craft = hall.crafts()[number]
        if not meets(craft.needs, given):
            with self.assertRaises(errors.Unfit):
                Run(hall, number, given, inputs)
            return "unfit"
        told = Run(hall, number, given, inputs).go(400)
        self.assertNotEqual(told[0], "broken", (number, given, inputs, told))
        if told[0] == "done":
            self.assertTrue(meets(craft.leaves, given, told[1:]), (number, given, inputs, told))
        return told[0]


class SwornRuns(WholeTest):
    def setUp(self):
        self.hall = hall_of(CRAFTS)
        for number in CRAFTS:
            self.assertNotIn(None, self.hall.seek(number), number)

    def test_all_are_sworn(self):
        for number in CRAFTS:
            self.assertIs(self.hall.sworn(number), True)

    def test_some_rows_have_a_greater_whole(self):
        self.assertEqual(self.hall.seek(1), [(1, [1, 0]), (1, [0, 1]), (2, [1, 0, 0, 1]), (2, [0, 1, 1, 0])])

    def test_no_word_is_broken(self):
        ends = {}
        for number in CRAFTS:
            for given in GIVEN:
                for inputs in INPUTS:
                    word = self.assert_no_word_broken(self.hall, number, given, list(inputs))
                    ends[word] = ends.get(word, 0) + 1
        for word in ("unfit", "done", "dry", "stray", "deep"):
            self.assertGreater(ends.get(word, 0), 10, word)

    def test_with_given_numbers_of_eighteen_figures(self):
        great = 10 ** 18 - 1
        for number in CRAFTS:
            for given in itertools.product((great, -great, 0), repeat=2):
                self.assert_no_word_broken(self.hall, number, given, [5, 6, 7])

    def test_rows_that_were_sought_may_be_vouched(self):
        other = hall_of(CRAFTS)
        for number in CRAFTS:
            other.vouch(number, self.hall.seek(number))
            self.assertIs(other.held(number), True)

    def test_one_laid_anew_unswears_those_that_come_to_it_until_it_is_held(self):
        self.hall.lay(1, CRAFTS[1])
        self.assertEqual([number for number in CRAFTS if self.hall.sworn(number)], [0, 2, 3, 5, 6])
        self.hall.seek(1)
        self.assertEqual([number for number in CRAFTS if self.hall.sworn(number)], list(CRAFTS))

    def test_one_laid_anew_that_keeps_no_word_breaks_it_and_none_is_sworn_that_comes_to_it(self):
        false = craft_of([("set", 0, line(-1))], [NEED0], [LEAVE0])
        self.hall.lay(3, false)
        self.assertEqual(self.hall.seek(3), [None])
        self.assertEqual([self.hall.held(2), self.hall.sworn(2), self.hall.sworn(3)], [True, False, False])
        self.assertEqual(Run(self.hall, 2, (1, 0), []).go(400), ("broken", "leaves", 3, 1, 0))


def one_word_craft(strewn):
    """A craft that needs, notes and leaves much the same of hands 0 and 1, with deeds that may keep to it or not."""
    first, second = strewn.one_of(((1, 0), (0, 1), (1, 1), (1, -1), (-1, 0)))
    constant = strewn.between(-1, 1)
    word = line(constant, h0=first, h1=second)
    count = strewn.between(1, 4)

    def own_line():
        factors = {strewn.one_of(("h0", "h1", "h2", "a0")): strewn.one_of((1, 1, 2, -1))}
        return line(strewn.between(-1, 2), **factors)

    def deed():
        hand, low = strewn.below(3), strewn.between(-1, 1)
        return strewn.one_of((
            ("set", hand, own_line()), ("set", 2, own_line()), ("part", hand, own_line(), strewn.between(1, 3)),
            ("draw", hand, low, low + strewn.below(5)), ("turn", own_line(), strewn.between(0, count)),
            ("hold", strewn.one_of((word, own_line()))), call(strewn.below(4)), call(strewn.below(4), (0, 1), (2, 3)),
            call(strewn.below(4), (1, 0), (1, 0))))

    notes = [[word] + [own_line()][:strewn.below(5) // 4] for _ in range(count)]
    needs, leaves = line(constant, a0=first, a1=second), line(constant, l0=first, l1=second)
    return craft_of([deed() for _ in range(count)], [needs], [leaves], notes)


def mostly_held_hall(strewn):
    hall = hall_of({number: one_word_craft(strewn) for number in range(4)})
    for number in range(4):
        hall.seek(number)
    for number in list(range(4)) * 6:
        if not hall.held(number):
            hall.lay(number, one_word_craft(strewn))
            hall.seek(number)
    return hall


class StrewnSwornRuns(WholeTest):
    def test_no_word_is_broken(self):
        ends, far_ends, broken = {}, {}, 0
        for seed in range(300):
            strewn = Strewn(seed)
            hall = mostly_held_hall(strewn)
            for number in [number for number in range(4) for _ in range(4)]:
                given = (strewn.between(-3, 3), strewn.between(-3, 3))
                inputs = [strewn.between(-1, 5) for _ in range(strewn.below(6))]
                if hall.sworn(number):
                    word = self.assert_no_word_broken(hall, number, given, inputs)
                    ends[word] = ends.get(word, 0) + 1
                    if len(hall.reach(number)) > 1:
                        far_ends[word] = far_ends.get(word, 0) + 1
                elif meets(hall.crafts()[number].needs, given):
                    broken += Run(hall, number, given, inputs).go(400)[0] == "broken"
        # What would show a fault must have come up: all sorts of ends, calls of others, words broken by the unsworn.
        for word in ("unfit", "done", "cut", "deep", "stray", "dry"):
            self.assertGreater(ends.get(word, 0), 50, word)
        self.assertGreater(far_ends.get("done", 0), 20)
        self.assertGreater(broken, 100)


class Refusals(unittest.TestCase):
    def setUp(self):
        self.hall = hall_of({0: CRAFTS[0], 4: CRAFTS[4]})
        self.unmet = craft_of([call(9)])
        self.hall.lay(5, self.unmet)

    def refusals(self):
        hall = self.hall
        return (
            ("BadSheet", lambda: hall.lay(0, Craft([], [], [], []))),
            ("NoCraft", lambda: hall.tear(7)),
            ("NoCraft", lambda: hall.vouch(7, [])),
            ("NoCraft", lambda: hall.seek(7)),
            ("NoCraft", lambda: Run(hall, 7, (-1, -1), [])),
            ("Unmet", lambda: hall.vouch(4, [])),
            ("Unmet", lambda: hall.vouch(5, [(1, [])])),
            ("Unmet", lambda: hall.seek(4)),
            ("Unmet", lambda: duties(self.unmet, {})),
            ("NotShown", lambda: hall.vouch(0, [])),
            ("NotShown", lambda: hall.vouch(0, [(1, [0])] * len(duties(CRAFTS[0], CRAFTS)))),
            ("Unfit", lambda: Run(hall, 0, (-1, 0), [])),
            ("Unfit", lambda: Run(hall, 4, (0, -1), [])))

    def test_each_is_a_value_error_of_its_own_class_and_of_none_of_the_others(self):
        names = ("BadSheet", "NoCraft", "Unmet", "NotShown", "Unfit")
        for name, refused in self.refusals():
            with self.subTest(name), self.assertRaises(ValueError) as taken:
                refused()
            classes = [other for other in names if isinstance(taken.exception, getattr(errors, other))]
            self.assertEqual(classes, [name])
            self.assertIsInstance(taken.exception, errors.HallError)

    def test_each_has_come_up(self):
        self.assertEqual(len({name for name, refused in self.refusals()}), 5)


if __name__ == "__main__":
    unittest.main()
