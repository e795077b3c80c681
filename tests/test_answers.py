"""Point 3: what the answers show, by their fields as they stand."""

import unittest

from helpers import FAR, GREAT, all_sums
from partways.answers import Alone, Answer, Partner
from partways.partners import partner


def unlike(*parts):
    """Tell parts, falling, as a sum each part of which comes once."""
    return [(part, 1) for part in parts]


SUMS = [[pairs for pairs in all_sums(n) if all(count == 1 for _, count in pairs)] for n in range(17)]
PAIRED = [unlike(3), unlike(2, 1), unlike(7, 6, 5, 3, 2), unlike(8, 7, 5, 3), unlike(9, 8, 7, 4),
          unlike(GREAT + 1, GREAT, 3), unlike(GREAT, GREAT - 1, 3, 2), unlike(FAR), unlike(FAR, FAR - 7, 5, 1)]
LONELY = [[], unlike(1), unlike(2), unlike(3, 2), unlike(4, 3), unlike(5, 4, 3), unlike(6, 5, 4)]


def spoiled(parts):
    """List what is nearly the partner, but not it."""
    found = [parts[::-1], parts + parts, []] if len(parts) > 1 else [parts + parts, []]
    found += [parts + [(1, 1)], parts + [(0, 1)], parts + [(1, 0)], [(parts[0][0] + 1, 1)] + parts, parts + [(-1, 1)]]
    for at, (part, _) in enumerate(parts):
        before, after = parts[:at], parts[at + 1:]
        found += [before + [(part + by, 1)] + after for by in (1, -1, 2, -part, -2 * part)]
        found += [before + [(part, count)] + after for count in (2, 0, -1, 3, GREAT, -GREAT)]
        found += [before + after, before + [(part, 1), (part, 1)] + after, before + [(part, 0), (part, 1)] + after]
        found += [before + [(1, part)] + after] if part > 1 else []
        if after:
            found.append(before + [after[0], (part, 1)] + after[1:])
            found.append(before + [(part - 1, 1), (after[0][0] + 1, 1)] + after[1:])
            found.append(before + [(part + 1, 1), (after[0][0] - 1, 1)] + after[1:])
    return [other for other in found if other != parts]


class ClassesTest(unittest.TestCase):
    def test_both_stand_straight_under_the_one(self):
        self.assertEqual(Partner.__bases__, (Answer,))
        self.assertEqual(Alone.__bases__, (Answer,))
        self.assertIn("shows", vars(Partner))
        self.assertIn("shows", vars(Alone))

    def test_their_fields_are_set(self):
        self.assertEqual(vars(Partner([(3, 1)])), {"parts": [(3, 1)]})
        self.assertEqual(vars(Partner(parts=[])), {"parts": []})
        self.assertEqual(vars(Alone(4)), {"many": 4})
        self.assertEqual(vars(Alone(many=-2)), {"many": -2})

    def test_the_list_of_a_partner_is_copied(self):
        parts = [(2, 1), (1, 1)]
        told = Partner(parts)
        self.assertIsNot(told.parts, parts)
        parts.append((0, 5))
        self.assertEqual(told.parts, [(2, 1), (1, 1)])
        self.assertIs(told.shows([(3, 1)]), True)
        told.parts.clear()
        self.assertEqual(parts, [(2, 1), (1, 1), (0, 5)])
        self.assertIs(told.shows([(3, 1)]), False)


class PartnerShowsTest(unittest.TestCase):
    def test_just_the_partner_of_all_small_sums(self):
        for sums in SUMS:
            for parts in sums:
                told = partner(parts)
                for other in sums:
                    goal = isinstance(told, Partner) and told.parts == other
                    self.assertIs(Partner(other).shows(parts), goal)

    def test_of_the_partner_spoiled(self):
        for parts in PAIRED:
            goal = partner(parts).parts
            self.assertIs(Partner(goal).shows(parts), True)
            for wrong in spoiled(goal):
                self.assertIs(Partner(wrong).shows(parts), False)

    def test_of_the_sum_itself_and_of_others(self):
        for parts in PAIRED:
            self.assertIs(Partner(parts).shows(parts), False)
            for other in PAIRED + LONELY:
                goal = partner(parts).parts == other
                self.assertIs(Partner(other).shows(parts), goal)

    def test_of_a_sum_that_has_none(self):
        for parts in LONELY:
            for other in LONELY + PAIRED + [[(0, 1)], [(1, 0)], [(1, 2)], [(1, 1), (1, 1)], [(2, 1), (0, 1)], [(-1, -1)]]:
                self.assertIs(Partner(other).shows(parts), False)
        self.assertIs(Partner([]).shows([]), False)
        self.assertIs(Partner([(1, 1), (1, 1)]).shows([(2, 1)]), False)
        self.assertIs(Partner([(2, 1), (0, 1)]).shows([(2, 1)]), False)
        self.assertIs(Partner([(1, 1), (0, 1)]).shows([(1, 1)]), False)
        self.assertIs(Partner([(4, 1), (1, 1), (0, 1)]).shows([(3, 1), (2, 1)]), False)
        self.assertIs(Partner([(3, 1), (2, 1), (2, 1)]).shows([(4, 1), (3, 1)]), False)

    def test_of_pairs_in_which_a_truth_stands_for_a_number(self):
        self.assertIs(Partner([(2, True), (1, 1)]).shows([(3, 1)]), False)
        self.assertIs(Partner([(2, 1), (True, 1)]).shows([(3, 1)]), False)

    def test_by_the_field_as_it_stands_then(self):
        for parts in PAIRED:
            told = partner(parts)
            goal = list(told.parts)
            for wrong in spoiled(goal) + [parts]:
                told.parts = wrong
                self.assertIs(told.shows(parts), False)
            told.parts = goal
            self.assertIs(told.shows(parts), True)
            told.parts.append((1, 1))
            self.assertIs(told.shows(parts), False)
            told.parts.pop()
            self.assertIs(told.shows(parts), True)
            told.parts[0] = (goal[0][0], 2)
            self.assertIs(told.shows(parts), False)

    def test_the_answer_to_one_may_become_the_answer_to_another(self):
        told = partner(unlike(3))
        told.parts = unlike(5, 2)
        self.assertIs(told.shows(unlike(3)), False)
        self.assertIs(told.shows(unlike(4, 2, 1)), True)


class AloneShowsTest(unittest.TestCase):
    def test_of_all_small_sums(self):
        for sums in SUMS:
            for parts in sums:
                told = partner(parts)
                for many in range(-2, 8):
                    self.assertIs(Alone(many).shows(parts), isinstance(told, Alone) and len(parts) == many)

    def test_of_a_sum_that_has_none(self):
        for parts in LONELY:
            many = len(parts)
            self.assertIs(Alone(many).shows(parts), True)
            for wrong in [many - 1, many + 1, -many - 1, -1, 2 * many + 1, GREAT, -GREAT, FAR]:
                self.assertIs(Alone(wrong).shows(parts), False)

    def test_of_a_sum_that_has_a_partner(self):
        for parts in PAIRED:
            for many in range(-1, len(parts) + 3):
                self.assertIs(Alone(many).shows(parts), False)
        for parts in [unlike(4, 2), unlike(5, 3), unlike(5, 4), unlike(2, 1), unlike(7, 5, 4), unlike(6, 5, 3)]:
            self.assertIs(Alone(len(parts)).shows(parts), False)

    def test_of_many_parts(self):
        for many in [1000, 3000]:
            for first in range(many - 2, many + 4):
                parts = unlike(*range(first + many - 1, first - 1, -1))
                self.assertIs(Alone(many).shows(parts), first in (many, many + 1))
                self.assertIs(Alone(many + 1).shows(parts), False)

    def test_a_truth_is_no_number(self):
        self.assertIs(Alone(False).shows([]), False)
        self.assertIs(Alone(True).shows([(1, 1)]), False)

    def test_by_the_field_as_it_stands_then(self):
        told = partner(unlike(3, 2))
        for many in [1, 3, 0, -1, -2, GREAT]:
            told.many = many
            self.assertIs(told.shows(unlike(3, 2)), False)
        told.many = 2
        self.assertIs(told.shows(unlike(3, 2)), True)
        told.many = 3
        self.assertIs(told.shows(unlike(6, 5, 4)), True)


class AskedTest(unittest.TestCase):
    def test_nothing_asked_of_or_held_is_changed(self):
        for parts in PAIRED + LONELY:
            for told in [partner(parts), Partner(parts), Partner([]), Partner([(1, 0), (2, -1)]), Alone(len(parts))]:
                before = list(parts)
                fields = {name: list(held) if isinstance(held, list) else held for name, held in vars(told).items()}
                told.shows(parts)
                self.assertEqual(parts, before)
                self.assertTrue(all(pair is old for pair, old in zip(parts, before)))
                self.assertEqual(vars(told), fields)


if __name__ == "__main__":
    unittest.main()
