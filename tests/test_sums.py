"""Points 1 and 4: what a sum is, what it comes to, and sums turned about."""

import copy
import unittest

from helpers import FAR, GREAT, all_sums, is_sum, no_sums, rows_of, single, told_as_sum
from partways.errors import BadSum
from partways.leading import gathered, spread
from partways.sums import is_own, often, turned, whole

ASKED = [whole, often, turned, is_own, lambda parts: spread(parts, 2), lambda parts: gathered(parts, 3)]
MANY = [(part, part % 2 + 1) for part in range(4001, 0, -2)]


def columns_counted(rows):
    """List the columns of rows of squares, counted square by square."""
    return [len([row for row in rows if row > at]) for at in range(max(rows, default=0))]


class SumsTest(unittest.TestCase):
    def test_the_empty_sum(self):
        self.assertEqual(whole([]), 0)
        self.assertEqual(often([]), 0)
        self.assertEqual(turned([]), [])
        self.assertIs(is_own([]), True)

    def test_what_few_parts_come_to(self):
        self.assertEqual(whole([(1, 1)]), 1)
        self.assertEqual(whole([(7, 1)]), 7)
        self.assertEqual(whole([(5, 2), (3, 1), (1, 4)]), 17)
        self.assertEqual(often([(1, 1)]), 1)
        self.assertEqual(often([(7, 1)]), 1)
        self.assertEqual(often([(5, 2), (3, 1), (1, 4)]), 7)

    def test_what_all_small_sums_come_to(self):
        for n in range(13):
            for rows, parts in zip(rows_of(n), all_sums(n)):
                self.assertEqual(whole(parts), n)
                self.assertEqual(often(parts), len(rows))

    def test_what_many_parts_come_to(self):
        self.assertEqual(whole(MANY), 2 * 2001 ** 2)
        self.assertEqual(often(MANY), 2 * 2001)

    def test_what_great_parts_come_to(self):
        parts = [(GREAT + 1, GREAT), (GREAT, 2), (3, GREAT + 5), (1, 1)]
        self.assertEqual(whole(parts), (GREAT + 1) * GREAT + 2 * GREAT + 3 * (GREAT + 5) + 1)
        self.assertEqual(often(parts), GREAT + 2 + GREAT + 5 + 1)
        self.assertEqual(whole([(FAR, FAR)]), FAR * FAR)
        self.assertEqual(often([(FAR, FAR), (2, 1)]), FAR + 1)

    def test_numbers_are_told_as_whole_numbers(self):
        for parts in [[], [(3, 1)], [(GREAT, GREAT)]]:
            self.assertIs(whole(parts).__class__, int)
            self.assertIs(often(parts).__class__, int)


class TurnedTest(unittest.TestCase):
    def test_told_by_hand(self):
        self.assertEqual(turned([(1, 1)]), [(1, 1)])
        self.assertEqual(turned([(4, 1)]), [(1, 4)])
        self.assertEqual(turned([(1, 4)]), [(4, 1)])
        self.assertEqual(turned([(5, 2), (3, 1), (1, 4)]), [(7, 1), (3, 2), (2, 2)])
        self.assertEqual(turned([(4, 1), (3, 1), (1, 1)]), [(3, 1), (2, 2), (1, 1)])

    def test_all_small_sums(self):
        for n in range(15):
            sums = all_sums(n)
            for parts in sums:
                about = turned(parts)
                self.assertTrue(is_sum(about))
                self.assertEqual(about, told_as_sum(columns_counted(single(parts))))
                self.assertEqual(turned(about), parts)
                self.assertIs(is_own(parts), about == parts)
            self.assertEqual(sorted(turned(parts) for parts in sums), sorted(sums))

    def test_those_that_are_their_own(self):
        for parts in [[(1, 1)], [(2, 1), (1, 1)], [(2, 2)], [(3, 1), (1, 2)], [(3, 1), (2, 1), (1, 1)], [(3, 3)]]:
            self.assertIs(is_own(parts), True)
        for parts in [[(2, 1)], [(1, 2)], [(3, 1), (2, 1)], [(2, 2), (1, 1)], [(3, 2)], [(2, 3)], [(4, 1), (1, 2)]]:
            self.assertIs(is_own(parts), False)

    def test_many_parts(self):
        about = turned(MANY)
        self.assertEqual(about, told_as_sum(columns_counted(single(MANY))))
        self.assertEqual(turned(about), MANY)
        self.assertIs(is_own(MANY), False)
        self.assertIs(is_own([(part, 1) for part in range(3000, 0, -1)]), True)

    def test_great_parts_and_counts(self):
        for great in [GREAT, FAR]:
            parts = [(great + 3, great), (great, 2), (3, great + 5)]
            about = [(2 * great + 7, 3), (great + 2, great - 3), (great, 3)]
            self.assertEqual(turned(parts), about)
            self.assertEqual(turned(about), parts)
            self.assertIs(is_own(parts), False)
            self.assertIs(is_own([(great, great)]), True)
            self.assertIs(is_own([(great, great + 1)]), False)
            self.assertIs(is_own([(great, 1), (1, great - 1)]), True)
            self.assertIs(is_own([(great, 1), (1, great)]), False)
            self.assertIs(is_own([(2 * great, great), (great, great)]), True)


class HandedInTest(unittest.TestCase):
    def test_nothing_handed_in_is_changed(self):
        for parts in [[], [(1, 1)], [(5, 2), (3, 1), (1, 2)], [(GREAT, 1), (1, 2)], list(MANY)]:
            before = copy.deepcopy(parts)
            pairs = list(parts)
            for ask in [whole, often, turned, is_own]:
                ask(parts)
                self.assertEqual(parts, before)
                self.assertTrue(all(pair is old for pair, old in zip(parts, pairs)))

    def test_what_is_told_is_new(self):
        for parts in [[], [(1, 1)], [(2, 1), (1, 1)], [(5, 2), (3, 1), (1, 2)]]:
            before = list(parts)
            told = turned(parts)
            kept = list(told)
            self.assertIsNot(told, parts)
            self.assertFalse(any(pair is old for pair in told for old in parts))
            told.append("more")
            told[0] = "other"
            self.assertEqual(turned(parts), kept)
            self.assertEqual(parts, before)

    def test_nothing_handed_in_is_kept(self):
        parts = [(5, 2), (3, 1)]
        told = turned(parts)
        parts.clear()
        self.assertEqual(told, [(3, 3), (2, 2)])
        self.assertEqual(turned(parts), [])

    def test_what_is_no_sum_is_refused(self):
        for at, ask in enumerate(ASKED):
            for which, wrong in enumerate(no_sums()):
                with self.subTest(ask=at, which=which):
                    with self.assertRaises(BadSum):
                        ask(wrong)

    def test_a_refused_sum_is_not_changed(self):
        wrong = [(5, 1), (3, 1), (3, 1)]
        for ask in ASKED:
            with self.assertRaises(BadSum):
                ask(wrong)
            self.assertEqual(wrong, [(5, 1), (3, 1), (3, 1)])


if __name__ == "__main__":
    unittest.main()
