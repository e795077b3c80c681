"""Point 3: sums of unlike parts, their partners, and those that have none."""

import unittest

from helpers import FAR, GREAT, all_sums, is_sum, no_sums, single
from partways.answers import Alone, Answer, Partner
from partways.errors import BadSum, NotSuch
from partways.partners import partner
from partways.sums import often, whole


def unlike(*parts):
    """Tell parts, falling, as a sum each part of which comes once."""
    return [(part, 1) for part in parts]


def unlike_sums(n):
    """List each sum of unlike parts of a small number."""
    return [pairs for pairs in all_sums(n) if all(count == 1 for _, count in pairs)]


def run(first, many):
    """Tell the sum of so many numbers from the first on."""
    return unlike(*range(first + many - 1, first - 1, -1))


def moved(rows):
    """List the parts of the partner, row by row as the document tells it, or None where there is none."""
    left = list(rows)
    stairs = [at for at in range(len(rows)) if all(rows[k] == rows[0] - k for k in range(at + 1))]
    if rows and rows[-1] <= len(stairs):
        least = left.pop()
        if least > len(left):
            return None
        for at in range(least):
            left[at] += 1
    else:
        for at in stairs:
            left[at] -= 1
        left.append(len(stairs))
    return left if left[-1] > 0 and left == sorted(set(left), reverse=True) else None


class PartnerCase(unittest.TestCase):
    def check_partner(self, parts, goal=None):
        told = partner(parts)
        self.assertIs(told.__class__, Partner)
        self.assertIsInstance(told, Answer)
        self.assertTrue(is_sum(told.parts))
        self.assertTrue(all(count == 1 for _, count in told.parts))
        self.assertEqual(whole(told.parts), whole(parts))
        self.assertEqual(abs(often(told.parts) - often(parts)), 1)
        self.assertEqual(partner(told.parts).parts, parts)
        self.assertIs(told.shows(parts), True)
        self.assertIs(partner(told.parts).shows(told.parts), True)
        if goal is not None:
            self.assertEqual(told.parts, goal)

    def check_alone(self, parts, many):
        told = partner(parts)
        self.assertIs(told.__class__, Alone)
        self.assertIsInstance(told, Answer)
        self.assertIs(told.many.__class__, int)
        self.assertEqual(told.many, many)
        self.assertIs(told.shows(parts), True)


class SmallTest(PartnerCase):
    def test_told_by_hand(self):
        self.check_partner(unlike(3), unlike(2, 1))
        self.check_partner(unlike(2, 1), unlike(3))
        self.check_partner(unlike(5, 2), unlike(4, 2, 1))
        self.check_partner(unlike(4, 2, 1), unlike(5, 2))
        self.check_partner(unlike(7, 6, 5, 3, 2), unlike(8, 7, 5, 3))
        self.check_partner(unlike(8, 7, 5, 3), unlike(7, 6, 5, 3, 2))
        self.check_partner(unlike(7, 6, 5), unlike(6, 5, 4, 3))
        self.check_partner(unlike(9, 8, 7, 4), unlike(8, 7, 6, 4, 3))

    def test_the_empty_sum_has_none(self):
        self.check_alone([], 0)

    def test_few_have_none(self):
        for parts, many in [([1], 1), ([2], 1), ([3, 2], 2), ([4, 3], 2), ([5, 4, 3], 3), ([6, 5, 4], 3),
                            ([7, 6, 5, 4], 4), ([8, 7, 6, 5], 4)]:
            self.check_alone(unlike(*parts), many)

    def test_all_small_sums(self):
        lonely = {}
        for n in range(31):
            for parts in unlike_sums(n):
                goal = moved(single(parts))
                if goal is None:
                    lonely[n] = len(parts)
                    self.check_alone(parts, len(parts))
                else:
                    self.check_partner(parts, unlike(*goal))
        self.assertEqual(lonely, {0: 0, 1: 1, 2: 1, 5: 2, 7: 2, 12: 3, 15: 3, 22: 4, 26: 4})

    def test_no_two_have_the_same_partner(self):
        for n in range(25):
            sums = unlike_sums(n)
            told = [partner(parts) for parts in sums]
            paired = [parts for parts, answer in zip(sums, told) if isinstance(answer, Partner)]
            self.assertEqual(sorted(answer.parts for answer in told if isinstance(answer, Partner)), sorted(paired))


class StairsTest(PartnerCase):
    def test_all_stairs(self):
        for many in [1, 2, 3, 4, 7, 30, 500]:
            for first in range(max(many - 2, 1), many + 4):
                parts = run(first, many)
                if first in (many, many + 1):
                    self.check_alone(parts, many)
                elif first < many:
                    self.check_partner(parts, unlike(*[part + 1 for part, _ in parts[:first]],
                                                     *[part for part, _ in parts[first:-1]]))
                else:
                    self.check_partner(parts, unlike(*[part - 1 for part, _ in parts], many))

    def test_stairs_but_for_the_least_part(self):
        for many in [1, 2, 3, 5, 40]:
            for least in range(1, many + 4):
                for top in [many + least + 1, many + least + 2, GREAT]:
                    rows = list(range(top, top - many, -1)) + [least]
                    if rows[-2] <= least + 1:
                        continue
                    if least <= many:
                        goal = [row + 1 for row in rows[:least]] + rows[least:-1]
                    else:
                        goal = [row - 1 for row in rows[:many]] + [least, many]
                    self.check_partner(unlike(*rows), unlike(*goal))

    def test_a_least_part_as_great_as_the_stairs_are_many_one_more_one_less(self):
        for many in [2, 3, 6]:
            for least in [many - 1, many, many + 1]:
                rows = list(range(GREAT, GREAT - many, -1)) + [1000, 998, 500, least]
                if least <= many:
                    goal = [row + 1 for row in rows[:least]] + rows[least:-1]
                else:
                    goal = [row - 1 for row in rows[:many]] + rows[many:] + [many]
                self.check_partner(unlike(*rows), unlike(*goal))

    def test_a_step_further_down_is_no_part_of_the_stairs(self):
        self.check_partner(unlike(20, 18, 17, 16, 3), unlike(19, 18, 17, 16, 3, 1))
        self.check_partner(unlike(20, 19, 17, 16, 2), unlike(21, 20, 17, 16))


class GreatTest(PartnerCase):
    def test_one_great_part(self):
        for great in [GREAT, FAR]:
            self.check_partner(unlike(great), unlike(great - 1, 1))
            self.check_partner(unlike(great, 1), unlike(great + 1))
            self.check_partner(unlike(great, 2), unlike(great - 1, 2, 1))

    def test_great_parts(self):
        for great in [GREAT, FAR]:
            self.check_partner(unlike(great + 2, great + 1, great), unlike(great + 1, great, great - 1, 3))
            self.check_partner(unlike(3 * great, 2 * great, great), unlike(3 * great - 1, 2 * great, great, 1))
            self.check_partner(unlike(great + 1, great, 2), unlike(great + 2, great + 1))
            self.check_partner(unlike(great + 1, great, 3), unlike(great, great - 1, 3, 2))

    def test_many_great_parts(self):
        parts = run(GREAT, 3000)
        self.check_partner(parts, unlike(*[part - 1 for part, _ in parts], 3000))
        self.check_partner(run(GREAT, 3000) + unlike(2999, 17))
        self.check_alone(run(3000, 3000), 3000)
        self.check_alone(run(3001, 3000), 3000)
        self.check_partner(run(2999, 3000))
        self.check_partner(run(3002, 3000))


class HandedInTest(unittest.TestCase):
    def test_nothing_handed_in_is_changed_and_what_is_told_is_new(self):
        for parts in [unlike(3), unlike(7, 6, 5, 3, 2), unlike(8, 7, 5, 3), unlike(9, 8, 7, 4), unlike(GREAT, 2)]:
            before = list(parts)
            told = partner(parts)
            kept = list(told.parts)
            self.assertTrue(all(pair is old for pair, old in zip(parts, before)))
            self.assertEqual(parts, before)
            self.assertIsNot(told.parts, parts)
            self.assertFalse(any(pair is old for pair in told.parts for old in parts))
            told.parts.clear()
            self.assertEqual(parts, before)
            again = partner(parts)
            self.assertIsNot(again, told)
            self.assertEqual(again.parts, kept)

    def test_nothing_handed_in_is_kept(self):
        parts = unlike(7, 6, 5, 3, 2)
        told = partner(parts)
        parts.clear()
        self.assertEqual(told.parts, unlike(8, 7, 5, 3))
        nothing = []
        self.assertEqual(partner(nothing).many, 0)
        self.assertEqual(nothing, [])

    def test_an_answer_of_none_is_new(self):
        told = partner([])
        told.many = 7
        self.assertEqual(partner([]).many, 0)


class RefusedTest(unittest.TestCase):
    def test_what_is_no_sum(self):
        for which, wrong in enumerate(no_sums()):
            with self.subTest(which=which):
                with self.assertRaises(BadSum):
                    partner(wrong)

    def test_a_part_that_comes_more_than_once(self):
        for wrong in [[(1, 2)], [(5, 2), (3, 1)], [(5, 1), (3, 2), (1, 1)], [(5, 1), (3, 1), (1, 2)], [(2, GREAT)],
                      [(GREAT, GREAT)], [(FAR, 1), (3, FAR)], run(5, 2000) + [(1, 2)]]:
            before = list(wrong)
            with self.assertRaises(NotSuch):
                partner(wrong)
            self.assertEqual(wrong, before)

    def test_of_two_at_once_the_first_told(self):
        for wrong in [[(5, 2), (5, 2)], [(5, 2), (3, 0)], [(3, 2), (5, 1)], [(5, 2), None], [(5, 3), (1, True)]]:
            with self.assertRaises(BadSum):
                partner(wrong)


if __name__ == "__main__":
    unittest.main()
