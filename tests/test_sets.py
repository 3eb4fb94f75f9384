"""Points 1, 2 and 3: sets, C(a, b), and the sets of one size by number."""

import itertools
import math
import unittest

from shadowheaps.errors import BadSet, NoSuch
from shadowheaps.sets import choices, number_of, set_at
from tests.helpers import RefusalCase, all_sets, put, stands_ahead

SIZES = range(9)


def sampled_numbers(size):
    """The first numbers of a size, the last, and some between, rising."""
    last = math.comb(60, size) - 1
    spread = [last * part // 97 for part in range(98)]
    around_new_things = [math.comb(thing, size) + off for thing in range(60) for off in (-1, 0, 1)]
    numbers = {*range(80), *range(last - 80, last + 1), *spread, *around_new_things}
    return sorted(number for number in numbers if 0 <= number <= last)


class Choices(unittest.TestCase):

    def test_ordinary_values(self):
        self.assertEqual(choices(4, 2), 6)
        self.assertEqual(choices(5, 1), 5)
        self.assertEqual(choices(12, 6), 924)
        self.assertEqual(choices(60, 8), 2558620845)

    def test_counts_the_sets(self):
        for a in range(10):
            for b in range(12):
                with self.subTest(a=a, b=b):
                    self.assertEqual(choices(a, b), len(list(itertools.combinations(range(a), b))))

    def test_all_that_may_be_asked(self):
        for a in range(101):
            for b in range(101):
                self.assertEqual(choices(a, b), math.comb(a, b), (a, b))

    def test_more_than_there_are(self):
        for a, b in ((0, 1), (1, 2), (7, 8), (3, 100), (0, 100), (99, 100)):
            with self.subTest(a=a, b=b):
                self.assertEqual(choices(a, b), 0)

    def test_nought_of_them(self):
        for a in (0, 1, 2, 59, 60, 100):
            with self.subTest(a=a):
                self.assertEqual(choices(a, 0), 1)

    def test_all_of_them(self):
        for a in (0, 1, 2, 60, 100):
            with self.subTest(a=a):
                self.assertEqual(choices(a, a), 1)

    def test_the_greatest(self):
        self.assertEqual(choices(100, 100), 1)
        self.assertEqual(choices(100, 99), 100)
        self.assertEqual(choices(100, 50), 100891344545564193334812497256)

    def test_somewhat_beyond_the_bounds(self):
        for a, b in ((101, 50), (120, 3), (130, 130), (100, 101), (0, 110)):
            with self.subTest(a=a, b=b):
                self.assertEqual(choices(a, b), math.comb(a, b))

    def test_whole_numbers(self):
        for a, b in ((0, 0), (0, 1), (5, 2), (100, 50)):
            with self.subTest(a=a, b=b):
                self.assertIs(type(choices(a, b)), int)


class Order(RefusalCase):

    def test_sets_of_two_things_as_shown(self):
        shown = [(0, 1), (0, 2), (1, 2), (0, 3)]
        self.assertEqual([set_at(2, number) for number in range(4)], shown)
        self.assertEqual([number_of(one) for one in shown], [0, 1, 2, 3])

    def test_all_sets_of_two_things(self):
        for number, one in enumerate(all_sets(60, 2)):
            self.assertEqual(set_at(2, number), one)
            self.assertEqual(number_of(one), number)

    def test_sets_of_one_thing(self):
        for thing in range(60):
            self.assertEqual(set_at(1, thing), (thing,))
            self.assertEqual(number_of((thing,)), thing)

    def test_all_sets_of_three_things(self):
        for number, one in enumerate(all_sets(60, 3)):
            self.assertEqual(number_of(one), number)

    def test_the_number_is_how_many_stand_ahead(self):
        for size in range(1, 9):
            sets = list(itertools.combinations(range(9), size))
            for one in sets:
                ahead = [other for other in sets if other != one and stands_ahead(other, one)]
                self.assertEqual(number_of(one), len(ahead), one)
                self.assertEqual(set_at(size, len(ahead)), one)

    def test_the_number_is_the_sum_told(self):
        for one in ((3, 10, 59), (0, 7, 8, 30, 41), (1, 2, 4, 8, 16, 32, 58), (5, 9, 14, 23, 31, 40, 52, 59)):
            told = sum(math.comb(thing, place) for place, thing in enumerate(one, 1))
            self.assertEqual(number_of(one), told, one)

    def test_the_lesser_number_stands_ahead(self):
        for size in range(1, 9):
            numbers = sampled_numbers(size)
            sets = [set_at(size, number) for number in numbers]
            for lesser, greater in zip(sets, sets[1:]):
                self.assertTrue(stands_ahead(lesser, greater), (lesser, greater))
            for lesser, greater in itertools.combinations(sets[::10], 2):
                self.assertTrue(stands_ahead(lesser, greater), (lesser, greater))


class ThereAndBack(RefusalCase):

    def test_from_number_to_set(self):
        for size in SIZES:
            for number in sampled_numbers(size):
                one = set_at(size, number)
                self.assert_plain_set(one)
                self.assertEqual(len(one), size, (size, number))
                self.assertEqual(list(one), sorted(set(one)), (size, number))
                self.assertTrue(all(0 <= thing < 60 for thing in one), (size, number))
                self.assertEqual(number_of(one), number, (size, number))

    def test_from_set_to_number(self):
        for size in SIZES:
            few = list(itertools.combinations((0, 1, 2, 17, 30, 31, 44, 57, 58, 59), size))
            for one in few:
                number = number_of(one)
                self.assertIs(type(number), int)
                self.assertTrue(0 <= number < math.comb(60, size), one)
                self.assertEqual(set_at(len(one), number), one)

    def test_first_and_last(self):
        for size in SIZES:
            with self.subTest(size=size):
                first = tuple(range(size))
                last = tuple(range(60 - size, 60))
                self.assertEqual(number_of(first), 0)
                self.assertEqual(set_at(size, 0), first)
                self.assertEqual(number_of(last), math.comb(60, size) - 1)
                self.assertEqual(set_at(size, math.comb(60, size) - 1), last)

    def test_the_one_set_of_size_nought(self):
        self.assertEqual(number_of(()), 0)
        self.assertEqual(set_at(0, 0), ())
        self.assertIs(type(set_at(0, 0)), tuple)
        self.assertIs(type(number_of(())), int)
        self.assert_refused(NoSuch, set_at, 0, 1)
        self.assert_refused(NoSuch, set_at, 0, -1)


class BadSets(RefusalCase):

    LONG = (3, 10, 17, 24, 31, 38, 45, 52)

    def assert_bad(self, one):
        with self.subTest(one=str(one)[:80] if max(one, default=0) < 10 ** 100 else "a very long number"):
            self.assert_refused(BadSet, number_of, one)

    def test_more_things(self):
        self.assertEqual(number_of(tuple(range(8))), 0)
        for many in (9, 10, 11, 20, 60, 61, 1000):
            self.assert_bad(tuple(range(many)))
        self.assert_bad(tuple(range(51, 60)))
        self.assert_bad(self.LONG + (59,))

    def test_a_thing_below_nought(self):
        for size in range(1, 9):
            for place in range(size):
                for thing in (-1, -2, -60, -10 ** 30):
                    self.assert_bad(put(self.LONG[:size], place, thing))
        self.assert_bad((-1, 0))
        self.assert_bad((-2, -1))

    def test_a_thing_of_sixty_or_more(self):
        for size in range(1, 9):
            for place in range(size):
                for thing in (60, 61, 100, 10 ** 30):
                    self.assert_bad(put(self.LONG[:size], place, thing))
        self.assert_bad((59, 60))
        self.assert_bad(tuple(range(53, 61)))

    def test_two_things_exchanged(self):
        for size in range(2, 9):
            for place, other in itertools.combinations(range(size), 2):
                one = self.LONG[:size]
                self.assert_bad(put(put(one, place, one[other]), other, one[place]))
        self.assert_bad((1, 0))
        self.assert_bad((59, 0))
        self.assert_bad(self.LONG[::-1])

    def test_one_thing_twice(self):
        for size in range(2, 9):
            for place in range(size - 1):
                one = self.LONG[:size]
                self.assert_bad(put(one, place, one[place + 1]))
                self.assert_bad(put(one, place + 1, one[place]))
        for thing in (0, 30, 59):
            self.assert_bad((thing, thing))
            self.assert_bad((thing,) * 8)

    def test_numbers_too_long_to_be_written(self):
        self.assert_bad((0, 10 ** 5000))
        self.assert_bad((-10 ** 5000, 10 ** 5000))


class NoSuchNumber(RefusalCase):

    def test_below_nought(self):
        for size in SIZES:
            for number in (-1, -2, -60, -math.comb(60, size), -10 ** 30):
                with self.subTest(size=size, number=number):
                    self.assert_refused(NoSuch, set_at, size, number)

    def test_past_the_last(self):
        for size in SIZES:
            past = math.comb(60, size)
            self.assertEqual(len(set_at(size, past - 1)), size)
            for number in (past, past + 1, 2 * past, past ** 2 + 1, 10 ** 30):
                with self.subTest(size=size, number=number):
                    self.assert_refused(NoSuch, set_at, size, number)

    def test_numbers_too_long_to_be_written(self):
        for size in (0, 1, 8):
            self.assert_refused(NoSuch, set_at, size, 10 ** 5000)
            self.assert_refused(NoSuch, set_at, size, -10 ** 5000)


class NothingKept(RefusalCase):

    def test_what_is_handed_in_stays_as_it_was(self):
        for one in ((), (0,), (4, 9, 13), (52, 53, 54, 55, 56, 57, 58, 59)):
            copy = tuple(list(one))
            number_of(one)
            self.assertEqual(one, copy)
            self.assertIs(type(one), tuple)

    def test_refused_sets_stay_as_they_were(self):
        for one in ((1, 0), (-1, 5), (5, 60), (7, 7)):
            copy = tuple(list(one))
            self.assert_refused(BadSet, number_of, one)
            self.assertEqual(one, copy)

    def test_answers_hang_on_nothing_asked_before(self):
        asked = [(size, number) for size in SIZES for number in (0, math.comb(60, size) - 1)]
        forth = [set_at(size, number) for size, number in asked]
        back = [set_at(size, number) for size, number in reversed(asked)]
        self.assertEqual(forth, back[::-1])
        sets = forth + [(2, 30), (0, 1, 59)]
        numbers = [number_of(one) for one in sets]
        self.assert_refused(BadSet, number_of, (1, 0))
        self.assert_refused(NoSuch, set_at, 2, -1)
        self.assertEqual([number_of(one) for one in reversed(sets)], numbers[::-1])

    def test_what_is_told_is_a_tuple_of_whole_numbers(self):
        for size in SIZES:
            for number in (0, math.comb(60, size) // 2, math.comb(60, size) - 1):
                self.assert_plain_set(set_at(size, number))


if __name__ == "__main__":
    unittest.main()
