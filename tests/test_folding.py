"""Points 4 and 5: sums of unlike odd parts folded, and the hooks of sums that are their own."""

import itertools
import unittest

from helpers import FAR, GREAT, all_sums, is_sum, no_sums, single, told_as_sum
from partways.errors import BadSum, NotSuch, TooMany
from partways.folding import folded, hooks
from partways.sums import is_own, turned, whole

FOLDED = 10 ** 30


def unlike(*parts):
    """Tell parts, falling, as a sum each part of which comes once."""
    return [(part, 1) for part in parts]


def can_be_folded(pairs):
    return all(part % 2 == 1 and count == 1 for part, count in pairs)


def folded_by_squares(parts):
    """Tell the rows of small parts, each bent in its middle and laid square by square."""
    squares = set()
    for at, part in enumerate(parts):
        squares.add((at, at))
        for step in range(1, part // 2 + 1):
            squares.add((at, at + step))
            squares.add((at + step, at))
    assert len(squares) == sum(parts)
    rows = [len([1 for row, _ in squares if row == at]) for at in range(sum(parts)) if (at, 0) in squares]
    assert squares == {(row, column) for row, length in enumerate(rows) for column in range(length)}
    return told_as_sum(rows)


def hooks_by_squares(pairs):
    """List the hooks of a small sum, counted square by square."""
    rows = single(pairs)
    squares = {(row, column) for row, length in enumerate(rows) for column in range(length)}
    found = []
    for at in range(len(rows)):
        if (at, at) in squares:
            right = len([1 for row, column in squares if row == at and column > at])
            beneath = len([1 for row, column in squares if column == at and row > at])
            found.append(right + beneath + 1)
    return found


class FoldedCase(unittest.TestCase):
    def check_folded(self, parts, goal=None):
        told = folded(parts)
        self.assertTrue(is_sum(told))
        self.assertIs(is_own(told), True)
        self.assertEqual(turned(told), told)
        self.assertEqual(whole(told), whole(parts))
        if goal is not None:
            self.assertEqual(told, goal)
        if len(parts) <= 1000:
            self.assertEqual(hooks(told), parts)

    def check_hooks(self, parts, goal=None):
        told = hooks(parts)
        self.assertTrue(is_sum(told))
        self.assertTrue(can_be_folded(told))
        self.assertEqual(whole(told), whole(parts))
        if goal is not None:
            self.assertEqual(told, goal)
        self.assertEqual(folded(told), parts)


class SmallTest(FoldedCase):
    def test_told_by_hand(self):
        self.check_folded(unlike(1), [(1, 1)])
        self.check_folded(unlike(3), [(2, 1), (1, 1)])
        self.check_folded(unlike(7), [(4, 1), (1, 3)])
        self.check_folded(unlike(3, 1), [(2, 2)])
        self.check_folded(unlike(5, 1), [(3, 1), (2, 1), (1, 1)])
        self.check_folded(unlike(5, 3), [(3, 2), (2, 1)])
        self.check_folded(unlike(5, 3, 1), [(3, 3)])
        self.check_folded(unlike(9, 5, 1), [(5, 1), (4, 1), (3, 1), (2, 1), (1, 1)])
        self.check_folded(unlike(9, 7, 3), [(5, 2), (4, 1), (3, 1), (2, 1)])
        self.check_hooks([(2, 2)], unlike(3, 1))
        self.check_hooks([(4, 1), (1, 3)], unlike(7))
        self.check_hooks([(6, 2), (3, 1), (2, 3)], unlike(11, 9, 1))

    def test_the_empty_sum(self):
        self.assertEqual(folded([]), [])
        self.assertEqual(hooks([]), [])

    def test_all_small_sums_folded(self):
        for n in range(27):
            sums = all_sums(n)
            sources = [parts for parts in sums if can_be_folded(parts)]
            for parts in sources:
                self.check_folded(parts, folded_by_squares(single(parts)))
            self.assertEqual(sorted(folded(parts) for parts in sources),
                             sorted(parts for parts in sums if is_own(parts)))

    def test_all_small_hooks(self):
        for n in range(27):
            for parts in all_sums(n):
                if is_own(parts):
                    self.check_hooks(parts, unlike(*hooks_by_squares(parts)))

    def test_each_choice_of_small_parts(self):
        odd = range(15, 0, -2)
        for many in range(len(odd) + 1):
            for parts in itertools.combinations(odd, many):
                self.check_folded(unlike(*parts), folded_by_squares(parts))


class GreatTest(FoldedCase):
    def test_one_great_part(self):
        for half in [FOLDED, GREAT, FAR]:
            self.check_folded(unlike(2 * half + 1), [(half + 1, 1), (1, half)])
            self.check_hooks([(half + 1, 1), (1, half)], unlike(2 * half + 1))

    def test_great_parts(self):
        for half in [FOLDED, GREAT, FAR]:
            self.check_folded(unlike(2 * half + 3, 2 * half + 1), [(half + 2, 2), (2, half)])
            self.check_folded(unlike(2 * half + 1, 1), [(half + 1, 1), (2, 1), (1, half - 1)])
            self.check_folded(unlike(2 * half + 5, 2 * half + 1, 3),
                              [(half + 3, 1), (half + 2, 1), (4, 1), (3, 1), (2, half - 2), (1, 1)])
            self.check_folded(unlike(6 * half + 1, 4 * half + 1, 2 * half + 1))

    def test_great_parts_with_hooks(self):
        for great in [FOLDED, GREAT, FAR]:
            self.check_hooks([(great, 2), (2, great - 2)], unlike(2 * great - 1, 2 * great - 3))
            self.check_hooks([(great, 3), (7, 4), (3, great - 7)],
                             unlike(2 * great - 1, 2 * great - 3, 2 * great - 5, 7, 5, 3, 1))

    def test_many_parts(self):
        self.check_folded(unlike(*range(1999, 0, -2)), [(1000, 1000)])
        self.check_folded(unlike(*range(4001, 2001, -4)))
        self.check_folded(unlike(*[2 * GREAT + 2 * at * at + 1 for at in range(1000, 0, -1)]))
        self.check_folded(unlike(*range(5999, 0, -2)), [(3000, 3000)])
        self.check_folded(unlike(*[2 * GREAT + 1 - 6 * at for at in range(2500)]))


class ManyHooksTest(FoldedCase):
    def test_a_thousand_are_told(self):
        self.check_hooks([(1000, 1000)], unlike(*range(1999, 0, -2)))
        self.check_hooks([(GREAT, 1000), (1000, GREAT - 1000)])
        self.check_hooks([(FAR, 999), (1001, 1), (1000, 1), (999, FAR - 1001)])
        self.check_hooks([(part, 1) for part in range(1999, 0, -1)], unlike(*range(3997, 0, -4)))
        self.check_hooks([(part, 1) for part in range(2000, 0, -1)], unlike(*range(3999, 0, -4)))
        self.assertEqual(len(hooks([(1001, 1000), (1000, 1)])), 1000)

    def test_one_more_is_refused(self):
        for parts in [[(1001, 1001)], [(1002, 1001), (1001, 1)], [(GREAT, 1001), (1001, GREAT - 1001)],
                      [(GREAT, 1000), (1001, 1), (1000, GREAT - 1001)], [(part, 1) for part in range(2001, 0, -1)]]:
            self.assertIs(is_own(parts), True)
            before = list(parts)
            with self.assertRaises(TooMany):
                hooks(parts)
            self.assertEqual(parts, before)

    def test_far_more_are_refused(self):
        for great in [10 ** 6, FOLDED, GREAT, FAR]:
            for parts in [[(great, great)], [(2 * great, great), (great, great)], [(great + 1, great), (great, 1)],
                          [(great + 2, 1), (great, great - 1), (1, 2)]]:
                self.assertIs(is_own(parts), True)
                with self.assertRaises(TooMany):
                    hooks(parts)

    def test_more_can_be_folded_still(self):
        with self.assertRaises(TooMany):
            hooks(folded(unlike(*range(2001, 0, -2))))


class HandedInTest(unittest.TestCase):
    def test_nothing_handed_in_is_changed_and_what_is_told_is_new(self):
        for ask, parts in [(folded, unlike(9, 7, 3)), (folded, unlike(1)), (folded, unlike(2 * GREAT + 1)),
                           (hooks, [(1, 1)]), (hooks, [(5, 2), (4, 1), (3, 1), (2, 1)]), (hooks, [(3, 3)])]:
            before = list(parts)
            told = ask(parts)
            kept = list(told)
            self.assertTrue(all(pair is old for pair, old in zip(parts, before)))
            self.assertEqual(parts, before)
            self.assertIsNot(told, parts)
            self.assertFalse(any(pair is old for pair in told for old in parts))
            told.append("more")
            told[0] = "other"
            self.assertEqual(parts, before)
            self.assertEqual(ask(parts), kept)

    def test_what_is_told_of_no_parts_is_new(self):
        for ask in [folded, hooks]:
            nothing = []
            told = ask(nothing)
            told.append("more")
            self.assertEqual(nothing, [])
            self.assertEqual(ask(nothing), [])

    def test_nothing_handed_in_is_kept(self):
        parts = unlike(9, 7, 3)
        told = folded(parts)
        parts.clear()
        self.assertEqual(told, [(5, 2), (4, 1), (3, 1), (2, 1)])
        again = hooks(told)
        told.clear()
        self.assertEqual(again, unlike(9, 7, 3))


class RefusedTest(unittest.TestCase):
    def test_what_is_no_sum(self):
        for which, wrong in enumerate(no_sums()):
            with self.subTest(which=which):
                with self.assertRaises(BadSum):
                    folded(wrong)
                with self.assertRaises(BadSum):
                    hooks(wrong)

    def test_what_cannot_be_folded(self):
        for wrong in [[(2, 1)], [(5, 1), (4, 1)], [(6, 1), (5, 1)], [(5, 1), (4, 1), (1, 1)], [(1, 2)], [(5, 2), (3, 1)],
                      [(5, 1), (3, 2)], [(4, 2)], [(2 * FOLDED, 1)], [(2 * FOLDED + 1, 2)], [(3, GREAT)], [(FAR, FAR)]]:
            before = list(wrong)
            with self.assertRaises(NotSuch):
                folded(wrong)
            self.assertEqual(wrong, before)

    def test_what_is_not_its_own(self):
        for wrong in [[(2, 1)], [(1, 2)], [(3, 1), (2, 1)], [(3, 2)], [(2, 3)], [(4, 1), (1, 2)], [(GREAT, GREAT + 1)],
                      [(FAR, 1), (1, FAR)]]:
            before = list(wrong)
            with self.assertRaises(NotSuch):
                hooks(wrong)
            self.assertEqual(wrong, before)

    def test_each_small_sum_that_is_not_such(self):
        for n in range(13):
            for parts in all_sums(n):
                if not can_be_folded(parts):
                    with self.assertRaises(NotSuch):
                        folded(parts)
                if not is_own(parts):
                    with self.assertRaises(NotSuch):
                        hooks(parts)

    def test_of_two_at_once_the_first_told(self):
        for wrong in [[(4, 2), (4, 2)], [(4, 2), (3, 0)], [(2, 1), (4, 1)], [(4, 2), None], [(4, 1), (1, True)],
                      [(2000, 2000), (0, 1)], [(2000, 2001), (2000, 1)]]:
            for ask in [folded, hooks]:
                with self.assertRaises(BadSum):
                    ask(wrong)
        for wrong in [[(1001, 1002)], [(1002, 1001)], [(GREAT, GREAT + 1)], [(GREAT, 2000)], [(FAR, FAR), (1, 1)]]:
            with self.assertRaises(NotSuch):
                hooks(wrong)


if __name__ == "__main__":
    unittest.main()
