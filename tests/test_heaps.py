"""Points 7, 8 and 10: the heap of a number, the least shadow, and the most sets that meet each other."""

import itertools
import math
import unittest

from shadowheaps.families import apart, first, shadow
from shadowheaps.heaps import heap, least_shadow, meeting, most_meeting
from tests.helpers import (
    RefusalCase, all_families, all_meet, all_sets, ordered, plain_shadow, some_families, within_steps,
)

SIZES = range(1, 7)
GREAT = 10 ** 12


def tried_numbers(size):
    """Nought, small numbers, numbers that are a choice or next to one, and great ones."""
    numbers = {*range(400), *range(GREAT - 50, GREAT + 1), *(10 ** power for power in range(13))}
    numbers.update(GREAT * part // 101 for part in range(102))
    for greatest in (*range(200), *range(200, 20000, 371), *range(10 ** 6, 1414215, 100003), 1414213, 1414214):
        numbers.update(math.comb(greatest, size) + off for off in (-2, -1, 0, 1, 2))
    return sorted(number for number in numbers if 0 <= number <= GREAT)


class Heap(unittest.TestCase):

    def assert_heap(self, size, many, row):
        """Just one row is such, as point 7 says; so nothing else has to be asked of it."""
        asked = (size, many, row)
        self.assertIs(type(row), list)
        self.assertTrue(all(type(greatest) is int for greatest in row), asked)
        self.assertLessEqual(len(row), size, asked)
        self.assertTrue(all(one > other for one, other in zip(row, row[1:])), asked)
        if row:
            self.assertGreaterEqual(row[-1], size - len(row) + 1, asked)
        self.assertEqual(sum(math.comb(greatest, size - place) for place, greatest in enumerate(row)), many, asked)

    def test_nought(self):
        for size in SIZES:
            self.assertEqual(heap(size, 0), [])

    def test_ordinary_rows(self):
        self.assertEqual(heap(1, 5), [5])
        self.assertEqual(heap(2, 1), [2])
        self.assertEqual(heap(2, 2), [2, 1])
        self.assertEqual(heap(3, 5), [4, 2])
        self.assertEqual(heap(3, 6), [4, 2, 1])
        self.assertEqual(heap(3, 10), [5])
        self.assertEqual(heap(6, 6), [6, 5, 4, 3, 2, 1])
        self.assertEqual(heap(6, 7), [7])

    def test_great_rows(self):
        self.assertEqual(heap(1, GREAT), [GREAT])
        self.assertEqual(heap(2, GREAT), [1414214, 88209])
        self.assertEqual(heap(2, math.comb(1414214, 2)), [1414214])
        self.assertEqual(heap(2, math.comb(1414214, 2) - 1), [1414213, 1414212])

    def test_the_row_of_point_7(self):
        for size in SIZES:
            for many in tried_numbers(size):
                self.assert_heap(size, many, heap(size, many))

    def test_a_choice_is_a_row_of_one(self):
        for size in SIZES:
            for greatest in range(size, 200):
                if math.comb(greatest, size) <= GREAT:
                    self.assertEqual(heap(size, math.comb(greatest, size)), [greatest])

    def test_every_row_is_told(self):
        for size in SIZES:
            for length in range(1, size + 1):
                for row in itertools.combinations(range(10, 0, -1), length):
                    if row[-1] >= size - length + 1:
                        many = sum(math.comb(greatest, size - place) for place, greatest in enumerate(row))
                        self.assertEqual(heap(size, many), list(row))

    def test_a_great_number_is_told_about_as_soon_as_a_small_one(self):
        for size in SIZES:
            for many in (GREAT, GREAT - 1, GREAT // 3, 10 ** 9 + 7, math.comb(1414214, 2), math.comb(18171, 3)):
                self.assert_heap(size, many, within_steps(10000, heap, size, many))
                within_steps(10000, least_shadow, size, many)

    def test_nothing_is_refused_somewhat_beyond_the_bounds(self):
        for size in (7, 8, 10):
            for many in (0, 1, 2, 7, 100, 12345, GREAT):
                self.assert_heap(size, many, heap(size, many))
        for size in SIZES:
            for many in (GREAT + 1, GREAT + 2, 3 * GREAT, 10 ** 15):
                self.assert_heap(size, many, within_steps(10000, heap, size, many))

    def test_what_is_done_to_a_told_row_changes_nothing(self):
        for size, many in ((1, 0), (3, 0), (3, 10), (3, 6), (2, GREAT)):
            told = heap(size, many)
            copy = list(told)
            told.append(7)
            told.reverse()
            self.assertEqual(heap(size, many), copy)
            told.clear()
            self.assertEqual(heap(size, many), copy)


class LeastShadow(unittest.TestCase):

    def test_nought(self):
        for size in SIZES:
            self.assertEqual(least_shadow(size, 0), 0)

    def test_ordinary_numbers(self):
        self.assertEqual(least_shadow(3, 1), 3)
        self.assertEqual(least_shadow(3, 4), 6)
        self.assertEqual(least_shadow(3, 5), 8)
        self.assertEqual(least_shadow(3, 6), 9)
        self.assertEqual(least_shadow(3, 10), 10)
        self.assertEqual(least_shadow(2, 7), 5)
        self.assertEqual(least_shadow(6, 924), 792)

    def test_sets_of_one_thing(self):
        for many in (1, 2, 12, 1000, GREAT - 1, GREAT):
            self.assertEqual(least_shadow(1, many), 1)

    def test_the_sum_of_point_8(self):
        for size in SIZES:
            for many in tried_numbers(size):
                told = least_shadow(size, many)
                row = heap(size, many)
                self.assertIs(type(told), int)
                self.assertEqual(told, sum(math.comb(greatest, size - 1 - place) for place, greatest in enumerate(row)))

    def test_great_numbers(self):
        self.assertEqual(least_shadow(2, GREAT), 1414215)
        self.assertEqual(least_shadow(2, math.comb(1414214, 2)), 1414214)
        self.assertEqual(least_shadow(6, math.comb(300, 6)), math.comb(300, 5))

    def test_the_shadow_of_the_first_sets(self):
        for size in SIZES:
            for many in range(min(200, math.comb(12, size)) + 1):
                self.assertEqual(len(shadow(first(size, many))), least_shadow(size, many), (size, many))

    def test_the_shadow_of_more_first_sets(self):
        for size in SIZES:
            thrown = set()
            for many, one in enumerate(all_sets(14, size), 1):
                thrown.update(plain_shadow([one]))
                self.assertEqual(least_shadow(size, many), len(thrown), (size, many))

    def test_no_family_has_a_lesser_shadow(self):
        small = [all_families(things, size) for things, size in ((5, 1), (4, 2), (5, 2), (5, 3), (6, 5), (5, 4))]
        for family in itertools.chain(some_families(), *small):
            if family:
                least = least_shadow(len(family[0]), len(family))
                self.assertGreaterEqual(len(shadow(family)), least, family)

    def test_some_family_has_that_shadow(self):
        for things, size in ((4, 2), (5, 2), (5, 3)):
            least = {}
            for family in all_families(things, size):
                many = len(family)
                least[many] = min(len(shadow(family)), least.get(many, 10 ** 9))
            for many, told in least.items():
                self.assertEqual(least_shadow(size, many), told)

    def test_nothing_is_refused_somewhat_beyond_the_bounds(self):
        for many, one in enumerate(all_sets(10, 7), 1):
            self.assertEqual(least_shadow(7, many), len(plain_shadow(all_sets(10, 7)[:many])))
        self.assertEqual(least_shadow(1, GREAT + 1), 1)


def most_found(things, size):
    """The most sets that meet each other, by trying every family."""
    def grown(chosen, left):
        most = len(chosen)
        for place, one in enumerate(left):
            if most - len(chosen) >= len(left) - place:
                break
            meeting_one = [other for other in left[place + 1:] if set(other) & set(one)]
            most = max(most, grown(chosen + [one], meeting_one))
        return most

    return grown([], all_sets(things, size))


class Meeting(RefusalCase):

    def test_the_number_of_point_10(self):
        for things in range(1, 13):
            for size in SIZES:
                told = most_meeting(things, size)
                self.assertIs(type(told), int)
                if things >= 2 * size:
                    self.assertEqual(told, math.comb(things - 1, size - 1), (things, size))
                else:
                    self.assertEqual(told, math.comb(things, size), (things, size))

    def test_ordinary_numbers(self):
        self.assertEqual(most_meeting(1, 1), 1)
        self.assertEqual(most_meeting(2, 1), 1)
        self.assertEqual(most_meeting(12, 1), 1)
        self.assertEqual(most_meeting(3, 2), 3)
        self.assertEqual(most_meeting(4, 2), 3)
        self.assertEqual(most_meeting(5, 2), 4)
        self.assertEqual(most_meeting(5, 3), 10)
        self.assertEqual(most_meeting(6, 3), 10)
        self.assertEqual(most_meeting(11, 6), 462)
        self.assertEqual(most_meeting(12, 6), 462)

    def test_fewer_things_than_the_size(self):
        for size in SIZES:
            for things in range(1, size):
                self.assertEqual(most_meeting(things, size), 0)
                if things <= 8:
                    self.assertEqual(meeting(things, size), [])

    def test_no_more_can_be_found(self):
        for things in range(1, 7):
            for size in SIZES:
                self.assertEqual(most_meeting(things, size), most_found(things, size), (things, size))

    def test_a_family_with_so_many(self):
        for things in range(1, 9):
            for size in SIZES:
                told = meeting(things, size)
                with self.subTest(things=things, size=size):
                    self.assert_plain_sets(told)
                    self.assertEqual(len(told), most_meeting(things, size))
                    self.assertEqual(told, ordered(set(told)))
                    self.assertTrue(set(told) <= set(all_sets(things, size)))
                    self.assertTrue(all_meet(told))
                    self.assertIsNone(apart(told))

    def test_nothing_is_refused_somewhat_beyond_the_bounds(self):
        for things, size in ((13, 3), (14, 7), (13, 7), (15, 8), (16, 6)):
            most = math.comb(things - 1, size - 1) if things >= 2 * size else math.comb(things, size)
            self.assertEqual(most_meeting(things, size), most)
        for things, size in ((9, 4), (10, 3), (9, 7), (9, 5)):
            told = meeting(things, size)
            self.assertEqual(len(told), most_meeting(things, size))
            self.assertTrue(all_meet(told))

    def test_what_is_done_to_a_told_list_changes_nothing(self):
        for things, size in ((3, 5), (1, 1), (4, 2), (5, 3), (8, 4)):
            told = meeting(things, size)
            copy = list(told)
            told.append((99, 100))
            told.reverse()
            self.assertEqual(meeting(things, size), copy)
            told.clear()
            self.assertEqual(meeting(things, size), copy)


if __name__ == "__main__":
    unittest.main()
