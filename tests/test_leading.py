"""Point 2: sums led by a number, and led back."""

import unittest

from helpers import FAR, GREAT, all_sums, is_sum, no_numbers, no_sums
from partways.errors import BadNumber, BadSum, NotSuch
from partways.leading import gathered, spread
from partways.sums import often, whole

NO_LEADERS = no_numbers() + [1, 0, -1, -2, -GREAT, -FAR]


def figures(number, by):
    """List the figures of a number, told by as many signs as `by` says, the lowest first."""
    found = []
    while number > 0:
        number, figure = divmod(number, by)
        found.append(figure)
    return found


def led_by_figures(parts, by):
    """Lead a sum just as the document tells it."""
    led = [(part * by ** at, figure) for part, count in parts
           for at, figure in enumerate(figures(count, by)) if figure > 0]
    return sorted(led, reverse=True)


def led_by_joining(parts, by):
    """Lead a small sum by joining as many like parts as the number says, again and again."""
    counts = dict(parts)
    for part in range(1, sum(part * count for part, count in parts) + 1):
        joined, left = divmod(counts.pop(part, 0), by)
        if joined > 0:
            counts[part * by] = counts.get(part * by, 0) + joined
        if left > 0:
            counts[part] = left
    return sorted(counts.items(), reverse=True)


def can_be_led(parts, by):
    return all(part % by > 0 for part, _ in parts)


def is_led(parts, by):
    return all(count < by for _, count in parts)


class LedTest(unittest.TestCase):
    def check_led(self, parts, by, told):
        self.assertTrue(is_sum(told))
        self.assertTrue(is_led(told, by))
        self.assertEqual(whole(told), whole(parts))
        self.assertEqual(gathered(told, by), parts)

    def test_told_by_hand(self):
        self.assertEqual(spread([(1, 5)], 2), [(4, 1), (1, 1)])
        self.assertEqual(spread([(5, 3), (3, 1), (1, 6)], 2), [(10, 1), (5, 1), (4, 1), (3, 1), (2, 1)])
        self.assertEqual(spread([(2, 5), (1, 9)], 3), [(9, 1), (6, 1), (2, 2)])
        self.assertEqual(spread([(3, 1234)], 10), [(3000, 1), (300, 2), (30, 3), (3, 4)])
        self.assertEqual(spread([(7, 2 ** 20)], 2), [(7 * 2 ** 20, 1)])
        self.assertEqual(gathered([(4, 1), (1, 1)], 2), [(1, 5)])
        self.assertEqual(gathered([(9, 1), (6, 1), (2, 2)], 3), [(2, 5), (1, 9)])
        self.assertEqual(gathered([(3000, 1), (300, 2), (30, 3), (3, 4)], 10), [(3, 1234)])

    def test_the_empty_sum(self):
        for by in [2, 3, 10, GREAT, FAR]:
            self.assertEqual(spread([], by), [])
            self.assertEqual(gathered([], by), [])

    def test_a_number_that_has_factors(self):
        self.assertEqual(spread([(10, 1), (9, 7), (3, 6), (2, 8)], 6), [(54, 1), (18, 1), (12, 1), (10, 1), (9, 1), (2, 2)])
        self.assertEqual(gathered([(54, 1), (18, 1), (12, 1), (10, 1), (9, 1), (2, 2)], 6),
                         [(10, 1), (9, 7), (3, 6), (2, 8)])
        self.assertEqual(spread([(6, 5), (2, 4), (1, 3)], 4), [(24, 1), (8, 1), (6, 1), (1, 3)])
        self.assertEqual(gathered([(8, 1), (2, 3)], 4), [(2, 7)])

    def test_parts_cross_on_the_way(self):
        told = spread([(5, 1), (3, 7), (1, 9)], 2)
        self.assertEqual(told, [(12, 1), (8, 1), (6, 1), (5, 1), (3, 1), (1, 1)])
        self.assertEqual(gathered(told, 2), [(5, 1), (3, 7), (1, 9)])

    def test_all_small_sums_are_led_to_all(self):
        for by in [2, 3, 4, 5, 6, 9, 20]:
            for n in range(19):
                sums = all_sums(n)
                sources = [parts for parts in sums if can_be_led(parts, by)]
                goals = [parts for parts in sums if is_led(parts, by)]
                reached = []
                for parts in sources:
                    told = spread(parts, by)
                    self.check_led(parts, by, told)
                    self.assertEqual(told, led_by_figures(parts, by))
                    self.assertEqual(told, led_by_joining(parts, by))
                    reached.append(told)
                self.assertEqual(sorted(reached), sorted(goals))

    def test_all_small_sums_are_led_back(self):
        for by in [2, 3, 4, 6, 10]:
            for n in range(17):
                for parts in all_sums(n):
                    if is_led(parts, by):
                        back = gathered(parts, by)
                        self.assertTrue(is_sum(back))
                        self.assertTrue(can_be_led(back, by))
                        self.assertEqual(whole(back), n)
                        self.assertEqual(spread(back, by), parts)

    def test_counts_of_many_figures(self):
        for by in [2, 3, 4, 7, 10, 12, 16, 1000, 10 ** 6, GREAT, GREAT * GREAT]:
            parts = [(GREAT * by + 1, GREAT + by), (3 * by - 1, 3 * GREAT - 1), (by + 1, GREAT), (1, GREAT ** 2)]
            told = spread(parts, by)
            self.assertEqual(told, led_by_figures(parts, by))
            self.check_led(parts, by, told)

    def test_counts_about_each_power(self):
        for by in [2, 3, 10]:
            for power in range(1, 40):
                for count in [by ** power - 1, by ** power, by ** power + 1]:
                    told = spread([(1, count)], by)
                    self.assertEqual(told, led_by_figures([(1, count)], by))
                    self.assertEqual(gathered(told, by), [(1, count)])

    def test_each_power_is_led_back(self):
        for by in [2, 3, 6, 10]:
            for power in range(70):
                for first in [1, by + 1, by - 1, GREAT * by + 1]:
                    self.assertEqual(gathered([(first * by ** power, 1)], by), [(first, by ** power)])

    def test_a_root_of_the_number_stays(self):
        self.assertEqual(gathered([(8, 1)], 4), [(2, 4)])
        self.assertEqual(gathered([(100, 8), (10, 3)], 100), [(10, 3), (1, 800)])
        self.assertEqual(spread([(10, 103), (1, 250)], 100), [(1000, 1), (100, 2), (10, 3), (1, 50)])

    def test_a_number_above_all_changes_nothing(self):
        parts = [(GREAT, GREAT), (5, 7), (1, 1)]
        for by in [GREAT + 1, FAR]:
            self.assertEqual(spread(parts, by), parts)
            self.assertEqual(gathered(parts, by), parts)

    def test_many_parts(self):
        parts = [(part, part + 5) for part in range(4001, 0, -2)]
        for by in [2, 4, 8]:
            told = spread(parts, by)
            self.assertEqual(told, led_by_figures(parts, by))
            self.check_led(parts, by, told)

    def test_told_at_once_however_great(self):
        for by in [2, 3, 10, GREAT]:
            power = by ** (200000 // by.bit_length())
            self.assertEqual(spread([(1, power)], by), [(power, 1)])
            self.assertEqual(gathered([(power, 1)], by), [(1, power)])
            self.assertEqual(spread([(by + 1, power + 1)], by), [((by + 1) * power, 1), (by + 1, 1)])
            self.assertEqual(gathered([((by + 1) * power, 1), (by + 1, 1)], by), [(by + 1, power + 1)])
        self.assertEqual(spread([(1, FAR ** 9)], FAR), [(FAR ** 9, 1)])
        self.assertEqual(gathered([(FAR ** 9, 1)], FAR), [(1, FAR ** 9)])
        parts = [(FAR + 2, FAR), (FAR, FAR + 1)]
        for by in [2, 3, 10]:
            far = [pair for pair in parts if pair[0] % by > 0]
            told = spread(far, by)
            self.check_led(far, by, told)
            self.assertEqual(often(told), sum(sum(figures(count, by)) for _, count in far))


class HandedInTest(unittest.TestCase):
    def test_nothing_handed_in_is_changed_and_what_is_told_is_new(self):
        for ask in [spread, gathered]:
            for parts, by in [([(5, 1), (3, 1), (1, 1)], 2), ([(5, 2), (1, 2)], 3), ([(5, 7), (1, 2)], GREAT)]:
                before = list(parts)
                told = ask(parts, by)
                kept = list(told)
                self.assertTrue(all(pair is old for pair, old in zip(parts, before)))
                self.assertFalse(any(pair is old for pair in told for old in parts))
                self.assertIsNot(told, parts)
                told.append("more")
                told[0] = "other"
                self.assertEqual(parts, before)
                self.assertEqual(ask(parts, by), kept)

    def test_what_is_told_of_no_parts_is_new(self):
        for ask in [spread, gathered]:
            nothing = []
            told = ask(nothing, 2)
            told.append("more")
            self.assertEqual(nothing, [])
            self.assertEqual(ask(nothing, 2), [])

    def test_nothing_handed_in_is_kept(self):
        for ask in [spread, gathered]:
            parts = [(5, 1), (3, 1)]
            told = ask(parts, 2)
            parts.clear()
            self.assertEqual(told, [(5, 1), (3, 1)])


class RefusedTest(unittest.TestCase):
    def test_numbers_that_are_no_leaders(self):
        for parts in [[], [(5, 1), (1, 1)]]:
            for which, wrong in enumerate(NO_LEADERS):
                with self.subTest(which=which):
                    with self.assertRaises(BadNumber):
                        spread(parts, wrong)
                    with self.assertRaises(BadNumber):
                        gathered(parts, wrong)

    def test_parts_that_the_number_goes_into(self):
        far = GREAT ** 5
        for parts, by in [([(2, 1)], 2), ([(7, 1), (6, 1), (1, 1)], 3), ([(12, 5)], 4), ([(5, 1), (1, 9)], 5),
                          ([(6, 1)], 6), ([(10 ** 40, 1), (3, 1)], 10), ([(far, 2), (1, 1)], GREAT), ([(FAR, 1)], FAR)]:
            with self.assertRaises(NotSuch):
                spread(parts, by)

    def test_parts_that_come_so_often(self):
        for parts, by in [([(1, 2)], 2), ([(3, 3)], 2), ([(7, 1), (5, 3), (1, 1)], 3), ([(5, 1), (4, 4)], 4),
                          ([(9, 1), (1, GREAT)], 10), ([(1, GREAT)], GREAT), ([(FAR, FAR + 1)], FAR)]:
            with self.assertRaises(NotSuch):
                gathered(parts, by)

    def test_the_edges_are_not_refused(self):
        self.assertEqual(spread([(6, 1)], 4), [(6, 1)])
        self.assertEqual(spread([(3, 1)], 6), [(3, 1)])
        self.assertEqual(gathered([(3, 3)], 4), [(3, 3)])
        self.assertEqual(gathered([(6, 2), (3, 2)], 3), [(2, 6), (1, 6)])
        self.assertEqual(spread([(1, 1)], 2), [(1, 1)])
        self.assertEqual(gathered([(1, 1)], 2), [(1, 1)])

    def test_of_two_at_once_the_first_told(self):
        for ask in [spread, gathered]:
            for wrong in no_sums():
                for by in [1, None, "2", True]:
                    with self.assertRaises(BadSum):
                        ask(wrong, by)
            for by in [1, 0, -2, None, "2", 2.0, True]:
                with self.assertRaises(BadNumber):
                    ask([(4, 4), (2, 2)], by)
            for wrong in [[(4, 4), (2, 0)], [(4, 4), (4, 4)], [(4, 4), None], [(2, 2), (4, 4)]]:
                with self.assertRaises(BadSum):
                    ask(wrong, 2)


if __name__ == "__main__":
    unittest.main()
