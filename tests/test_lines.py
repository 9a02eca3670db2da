"""Points 1 to 3: worth, holds, bare, summed, turned."""

import copy
import unittest

from swornhall.lines import bare, holds, summed, turned, worth

FORTY = 10 ** 40 - 1
LINE = [5, 1, -2, 3, -4, 5, -6, 7, -8]
NUMBERS = [2, 3, 5, 7, 11, 13, 17, 19]
NOUGHTS = [0, 0, 0, 0, 0, 0, 0, 0, 0]
EIGHT = [
    [1, 2, 0, 0, 0, 0, 0, 0, -1],
    [0, 0, 3, 0, 0, 0, 0, 0, 0],
    [-7, 0, 0, 0, 0, 0, 0, 4, 0],
    [9, 1, 1, 1, 1, 1, 1, 1, 1],
    [0, 0, 0, 0, 0, 0, 0, 0, 0],
    [2, -3, 0, 5, 0, -7, 0, 11, 0],
    [0, 0, 0, 0, 6, 0, 0, 0, 0],
    [-1, -2, -3, -4, -5, -6, -7, -8, -9],
]


def constant(number):
    return [number] + [0] * 8


def spread(seed, count):
    # Whole numbers of both signs and of up to forty figures, the same in each run.
    numbers = []
    for _ in range(count):
        seed = (seed * 6364136223846793005 + 1442695040888963407) % 2 ** 64
        numbers.append((seed ** 3) % (2 * FORTY + 1) - FORTY)
    return numbers


class Worth(unittest.TestCase):
    def test_is_the_constant_and_the_factors_times_their_numbers(self):
        by_hand = 5 + 2 - 6 + 15 - 28 + 55 - 78 + 119 - 152
        self.assertEqual(worth(LINE, NUMBERS), by_hand)

    def test_of_a_line_without_factors_is_its_constant(self):
        self.assertEqual(worth(constant(-12), NUMBERS), -12)

    def test_each_factor_goes_with_its_own_number(self):
        for i in range(8):
            line = constant(100)
            line[i + 1] = 10
            self.assertEqual(worth(line, NUMBERS), 100 + 10 * NUMBERS[i])

    def test_takes_a_tuple_of_numbers_too(self):
        self.assertEqual(worth(LINE, tuple(NUMBERS)), worth(LINE, NUMBERS))

    def test_of_forty_figures_either_way(self):
        self.assertEqual(worth([FORTY] * 9, [FORTY] * 8), FORTY + 8 * FORTY * FORTY)
        self.assertEqual(worth([-FORTY] * 9, [FORTY] * 8), -FORTY - 8 * FORTY * FORTY)
        self.assertEqual(worth([FORTY] * 9, [-FORTY] * 8), FORTY - 8 * FORTY * FORTY)
        self.assertEqual(worth([1, FORTY, -FORTY, 0, 0, 0, 0, 0, 0], [FORTY] * 8), 1)

    def test_is_a_whole_number(self):
        self.assertIs(type(worth(LINE, NUMBERS)), int)
        self.assertIs(type(worth(NOUGHTS, [0] * 8)), int)


class Holds(unittest.TestCase):
    def test_at_nought_one_above_and_one_below(self):
        rest = worth([0] + LINE[1:], NUMBERS)
        for short, answer in ((0, True), (1, True), (-1, False)):
            with self.subTest(short):
                line = [short - rest] + LINE[1:]
                self.assertEqual(worth(line, NUMBERS), short)
                self.assertIs(holds(line, NUMBERS), answer)

    def test_of_constants(self):
        self.assertIs(holds(constant(0), NUMBERS), True)
        self.assertIs(holds(constant(1), NUMBERS), True)
        self.assertIs(holds(constant(-1), NUMBERS), False)

    def test_of_forty_figures_either_way(self):
        big = FORTY * FORTY
        for short, answer in ((0, True), (1, True), (-1, False)):
            for sign in (1, -1):
                line = [short - sign * big, 0, 0, sign * FORTY, 0, 0, 0, 0, 0]
                self.assertIs(holds(line, [0, 0, FORTY, 0, 0, 0, 0, 0]), answer)


class Bare(unittest.TestCase):
    def test_each_from_0_to_7(self):
        wanted = [
            [0, 1, 0, 0, 0, 0, 0, 0, 0],
            [0, 0, 1, 0, 0, 0, 0, 0, 0],
            [0, 0, 0, 1, 0, 0, 0, 0, 0],
            [0, 0, 0, 0, 1, 0, 0, 0, 0],
            [0, 0, 0, 0, 0, 1, 0, 0, 0],
            [0, 0, 0, 0, 0, 0, 1, 0, 0],
            [0, 0, 0, 0, 0, 0, 0, 1, 0],
            [0, 0, 0, 0, 0, 0, 0, 0, 1],
        ]
        self.assertEqual([bare(i) for i in range(8)], wanted)

    def test_its_worth_is_the_number_of_its_place(self):
        self.assertEqual([worth(bare(i), NUMBERS) for i in range(8)], NUMBERS)

    def test_beyond_its_bounds_nothing_is_refused_and_no_factor_stands(self):
        self.assertEqual(bare(-1), NOUGHTS)
        self.assertEqual(bare(8), NOUGHTS)

    def test_has_whole_numbers_alone(self):
        for i in range(8):
            self.assertEqual({type(number) for number in bare(i)}, {int})


class Summed(unittest.TestCase):
    def test_of_no_lines_is_nine_noughts(self):
        self.assertEqual(summed([], []), NOUGHTS)

    def test_of_one_line(self):
        self.assertEqual(summed([LINE], [1]), LINE)
        self.assertEqual(summed([LINE], [0]), NOUGHTS)
        self.assertEqual(summed([LINE], [-3]), [-15, -3, 6, -9, 12, -15, 18, -21, 24])

    def test_of_two_lines(self):
        other = [1, 1, 1, 1, 1, 1, 1, 1, 1]
        self.assertEqual(summed([LINE, other], [2, -1]), [9, 1, -5, 5, -9, 9, -13, 13, -17])

    def test_of_many_lines(self):
        lines = [spread(seed, 9) for seed in range(50)]
        weights = spread(99, 50)
        wanted = [sum(line[spot] * weight for line, weight in zip(lines, weights)) for spot in range(9)]
        self.assertEqual(summed(lines, weights), wanted)

    def test_one_line_may_stand_in_it_twice(self):
        self.assertEqual(summed([LINE, LINE], [3, -2]), LINE)

    def test_of_forty_figures_either_way(self):
        self.assertEqual(summed([[FORTY] * 9, [-FORTY] * 9], [FORTY, FORTY - 1]), [FORTY] * 9)
        self.assertEqual(summed([[-FORTY] * 9], [FORTY]), [-FORTY * FORTY] * 9)


class Turned(unittest.TestCase):
    def test_is_its_constant_and_the_eight_by_its_factors(self):
        self.assertEqual(
            turned([100, 1, 0, 0, 0, 0, 0, 0, 0], EIGHT), [101, 2, 0, 0, 0, 0, 0, 0, -1])
        self.assertEqual(
            turned([100, 0, 10, -1, 0, 0, 0, 0, 0], EIGHT), [107, 0, 30, 0, 0, 0, 0, -4, 0])

    def test_of_a_line_without_factors_is_that_line(self):
        self.assertEqual(turned(constant(42), EIGHT), constant(42))

    def test_by_the_bare_lines_stays_as_it_is(self):
        self.assertEqual(turned(LINE, [bare(i) for i in range(8)]), LINE)

    def test_by_nought_lines_keeps_its_constant_alone(self):
        self.assertEqual(turned(LINE, [NOUGHTS] * 8), constant(5))

    def test_of_a_bare_line_is_the_line_of_its_place(self):
        for i in range(8):
            self.assertEqual(turned(bare(i), EIGHT), EIGHT[i])

    def test_its_worth_is_the_worth_at_the_worths_of_the_eight(self):
        worths = [worth(line, NUMBERS) for line in EIGHT]
        self.assertEqual(worth(turned(LINE, EIGHT), NUMBERS), worth(LINE, worths))

    def test_the_same_with_up_to_forty_figures(self):
        for seed in range(30):
            line = spread(seed, 9)
            eight = [spread(1000 * seed + i, 9) for i in range(1, 9)]
            numbers = spread(seed + 500, 8)
            worths = [worth(other, numbers) for other in eight]
            self.assertEqual(worth(turned(line, eight), numbers), worth(line, worths))


class OwnLists(unittest.TestCase):
    def test_nothing_handed_in_is_changed(self):
        line, numbers, eight, weights = list(LINE), list(NUMBERS), copy.deepcopy(EIGHT), list(NUMBERS)
        worth(line, numbers)
        holds(line, numbers)
        summed(eight, weights)
        summed([line], [1])
        turned(line, eight)
        self.assertEqual((line, numbers, eight, weights), (LINE, NUMBERS, EIGHT, NUMBERS))

    def test_what_is_told_may_be_changed(self):
        line = list(LINE)
        eight = copy.deepcopy(EIGHT)
        askings = (
            lambda: bare(3),
            lambda: summed([], []),
            lambda: summed([line], [1]),
            lambda: turned(line, eight),
            lambda: turned(bare(2), eight),
            lambda: turned(constant(4), eight),
        )
        for asked in askings:
            told = asked()
            before = list(told)
            told[0] = 77
            told.append(78)
            self.assertEqual(asked(), before)
        self.assertEqual((line, eight), (LINE, EIGHT))

    def test_what_was_handed_in_may_be_changed_behind_the_telling(self):
        line = list(LINE)
        eight = copy.deepcopy(EIGHT)
        alone, sum_told, turn_told = summed([line], [1]), summed(eight, NUMBERS), turned(bare(2), eight)
        kept = copy.deepcopy((alone, sum_told, turn_told))
        line[0] = 99
        for other in eight:
            other[0] = 98
            other[7] = 97
        self.assertEqual((alone, sum_told, turn_told), kept)

    def test_no_told_list_is_one_that_was_handed_in(self):
        line = list(LINE)
        eight = copy.deepcopy(EIGHT)
        self.assertIsNot(summed([line], [1]), line)
        self.assertIsNot(turned(line, [bare(i) for i in range(8)]), line)
        for i in range(8):
            self.assertIsNot(turned(bare(i), eight), eight[i])

    def test_lines_are_lists(self):
        for told in (bare(0), summed([], []), summed([LINE], [2]), turned(LINE, EIGHT)):
            self.assertIs(type(told), list)
            self.assertEqual(len(told), 9)


if __name__ == "__main__":
    unittest.main()
