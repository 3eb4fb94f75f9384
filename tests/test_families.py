"""Points 4, 5, 6, 9 and 10: families, their shadows, the first sets, pushing, and sets that do not meet."""

import itertools
import math
import unittest

from shadowheaps.errors import BadFamily
from shadowheaps.families import apart, first, pushed, shadow
from shadowheaps.notes import shown
from shadowheaps.sets import number_of, set_at
from tests.helpers import (
    GOOD_SETS, RefusalCase, all_families, all_meet, all_sets, bad_families, plain_pushed, plain_shadow,
    some_families, stands_ahead, turned_about,
)

ASKED = {
    "shadow": shadow,
    "pushed": lambda family: pushed(family, 4, 1),
    "pushed upwards": lambda family: pushed(family, 0, 11),
    "apart": apart,
    "shown": shown,
}

PUSHES = list(itertools.permutations(range(12), 2))


def meeting_families():
    """Families of every size whose sets meet each other, not all through one thing."""
    for size in range(1, 7):
        sets = all_sets(min(12, 2 * size + 2), size)
        for begun in range(0, len(sets), 1 + len(sets) // 8):
            family = []
            for one in (sets[begun:] + sets[:begun])[::1 + len(sets) // 50]:
                if all(set(one) & set(other) for other in family):
                    family.append(one)
            yield family


class Families(RefusalCase):

    def test_what_is_no_family_is_refused(self):
        for why, family in bad_families():
            for name, call in ASKED.items():
                with self.subTest(call=name, why=why):
                    copy = list(family)
                    self.assert_refused(BadFamily, call, family)
                    self.assertTrue(family == copy)

    def test_the_empty_family(self):
        self.assertEqual(shadow([]), [])
        self.assertEqual(pushed([], 1, 0), [])
        self.assertIsNone(apart([]))
        self.assertEqual(shown([]), "")

    def test_two_hundred_sets(self):
        for size in (3, 4, 5, 6):
            for sets in (all_sets(12, size)[:200], all_sets(12, size)[-200:]):
                for family in [sets] + turned_about(sets):
                    self.assertEqual(len(family), 200)
                    for name, call in ASKED.items():
                        with self.subTest(call=name, size=size):
                            call(family)

    def test_all_sets_of_one_or_two_things(self):
        for size in (1, 2):
            for call in ASKED.values():
                call(all_sets(12, size))

    def test_any_size_and_any_order(self):
        for good in GOOD_SETS.values():
            for many in range(1, 6):
                for family in itertools.permutations(good, many):
                    for call in ASKED.values():
                        call(list(family))

    def test_sizes_change_from_family_to_family(self):
        for size in (6, 1, 3, 2, 5, 4):
            self.assertEqual(shadow(GOOD_SETS[size]), plain_shadow(GOOD_SETS[size]))


class Shadow(RefusalCase):

    def assert_shadow(self, family):
        told = shadow(family)
        self.assert_plain_sets(told)
        self.assertEqual(told, plain_shadow(family))
        return told

    def test_as_shown(self):
        self.assertEqual(shadow([(0, 1, 4), (0, 2, 3)]), [(0, 1), (0, 2), (0, 3), (2, 3), (0, 4), (1, 4)])
        self.assertEqual(shadow([(0, 1, 2), (0, 1, 3)]), [(0, 1), (0, 2), (1, 2), (0, 3), (1, 3)])
        self.assertEqual(shadow([(10, 11), (2, 9)]), [(2,), (9,), (10,), (11,)])
        self.assertEqual(shadow([(0, 1, 2, 3, 4, 5)]), all_sets(6, 5))

    def test_sets_of_one_thing(self):
        for thing in range(12):
            self.assertEqual(shadow([(thing,)]), [()])
        for family in all_families(4, 1):
            if family:
                self.assertEqual(shadow(family), [()])
        self.assertEqual(shadow(all_sets(12, 1)), [()])
        self.assert_plain_sets(shadow([(3,)]))

    def test_every_small_family(self):
        for things, size in ((4, 2), (4, 3), (5, 4), (5, 2), (5, 3)):
            for family in all_families(things, size):
                self.assert_shadow(family)

    def test_families_of_every_size(self):
        for family in some_families():
            told = self.assert_shadow(family)
            for other in turned_about(family):
                self.assertTrue(shadow(other) == told, family)

    def test_the_order_of_point_3(self):
        for family in some_families():
            if len(family[0]) > 1:
                told = shadow(family)
                for one, other in zip(told, told[1:]):
                    self.assertTrue(stands_ahead(one, other), (one, other))

    def test_a_shadow_may_have_more_than_200_sets(self):
        family = all_sets(12, 6)[::5]
        self.assertLessEqual(len(family), 200)
        self.assertGreater(len(self.assert_shadow(family)), 200)


class First(RefusalCase):

    MANY = (0, 1, 2, 3, 10, 11, 12, 59, 60, 61, 66, 67, 165, 199, 200)

    def test_as_shown(self):
        self.assertEqual(first(2, 4), [(0, 1), (0, 2), (1, 2), (0, 3)])
        self.assertEqual(first(1, 3), [(0,), (1,), (2,)])
        self.assertEqual(first(6, 1), [(0, 1, 2, 3, 4, 5)])
        self.assertEqual(first(3, 0), [])

    def test_every_number(self):
        for size in range(1, 7):
            sets = all_sets({1: 60, 2: 21}.get(size, 12), size)
            for many in range(min(200, math.comb(60, size)) + 1):
                self.assertTrue(first(size, many) == sets[:many], (size, many))

    def test_they_have_the_least_numbers(self):
        for size in range(1, 7):
            for many in self.MANY:
                if many <= math.comb(60, size):
                    told = first(size, many)
                    self.assert_plain_sets(told)
                    self.assertEqual([number_of(one) for one in told], list(range(many)))
                    self.assertEqual(told, [set_at(size, number) for number in range(many)])

    def test_nothing_is_refused_somewhat_beyond_the_bounds(self):
        self.assertEqual(first(7, 9), all_sets(9, 7)[:9])
        self.assertEqual(first(8, 200), all_sets(12, 8)[:200])
        self.assertEqual(first(4, 210), all_sets(12, 4)[:210])
        self.assertEqual(first(1, 61), [(thing,) for thing in range(61)])
        self.assertEqual(first(0, 1), [()])
        self.assertEqual(first(0, 0), [])


class Pushed(RefusalCase):

    def assert_pushed(self, family, j, i):
        told = pushed(family, j, i)
        self.assertTrue(told == plain_pushed(family, j, i), (family, j, i))
        self.assertEqual(len(told), len(family))
        return told

    def test_ordinary_families(self):
        self.assertEqual(pushed([(1, 2)], 2, 0), [(0, 1)])
        self.assertEqual(pushed([(1, 2), (0, 1)], 2, 0), [(0, 1), (1, 2)])
        self.assertEqual(pushed([(0, 2)], 2, 0), [(0, 2)])
        self.assertEqual(pushed([(0, 1)], 2, 5), [(0, 1)])
        self.assertEqual(pushed([(3, 4), (1, 3), (2, 3)], 3, 0), [(0, 1), (0, 2), (0, 4)])
        self.assertEqual(pushed([(5,), (7,)], 7, 5), [(5,), (7,)])
        self.assertEqual(pushed([(5,), (7,)], 7, 6), [(5,), (6,)])

    def test_from_the_lesser_to_the_greater(self):
        self.assertEqual(pushed([(0, 5, 6)], 0, 11), [(5, 6, 11)])
        self.assertEqual(pushed([(0, 1), (1, 11)], 0, 11), [(0, 1), (1, 11)])
        self.assertEqual(pushed([(0, 3), (0, 1)], 0, 2), [(1, 2), (2, 3)])

    def test_every_small_family(self):
        for things, size in ((4, 1), (4, 2), (4, 3)):
            for family in all_families(things, size):
                for j, i in itertools.permutations(range(5), 2):
                    self.assert_pushed(family, j, i)

    def test_families_of_every_size(self):
        for family in some_families():
            for j, i in PUSHES[::7]:
                self.assert_plain_sets(self.assert_pushed(family, j, i))

    def test_every_push_of_one_family_of_each_size(self):
        for family in GOOD_SETS.values():
            for j, i in PUSHES:
                self.assert_pushed(family, j, i)

    def test_the_order_of_the_list_counts_for_nothing(self):
        for family in some_families():
            for j, i in PUSHES[::19]:
                told = pushed(family, j, i)
                for other in turned_about(family):
                    self.assertTrue(pushed(other, j, i) == told, (family, j, i))

    def test_the_order_of_point_3(self):
        for family in some_families():
            for j, i in PUSHES[::19]:
                told = pushed(family, j, i)
                for one, other in zip(told, told[1:]):
                    self.assertTrue(stands_ahead(one, other), (one, other))

    def test_pushed_once_more_it_is_the_same(self):
        for family in some_families():
            for j, i in PUSHES[::11]:
                told = pushed(family, j, i)
                self.assertTrue(pushed(told, j, i) == told, (family, j, i))

    def test_its_shadow_lies_in_the_shadow_pushed_likewise(self):
        tried = 0
        for family in itertools.chain(some_families(), all_families(4, 2), all_families(5, 4)):
            thrown = shadow(family)
            if thrown == [()] or len(thrown) > 200:
                continue
            for j, i in PUSHES[::5]:
                tried += 1
                of_pushed = shadow(pushed(family, j, i))
                self.assertTrue(set(of_pushed) <= set(pushed(thrown, j, i)), (family, j, i))
                self.assertLessEqual(len(of_pushed), len(thrown))
        self.assertGreater(tried, 5000)

    def test_sets_that_meet_still_meet(self):
        tried = 0
        for family in itertools.chain(meeting_families(), all_families(4, 2), all_families(5, 2), all_families(5, 3)):
            if all_meet(family):
                for j, i in PUSHES[len(family) % 5::5]:
                    tried += 1
                    moved = pushed(family, j, i)
                    self.assertTrue(all_meet(moved), (family, j, i))
                    self.assertIsNone(apart(moved))
        self.assertGreater(tried, 20000)


class Apart(RefusalCase):

    @staticmethod
    def plain_apart(family):
        pairs = [
            (later, earlier) for earlier, later in itertools.combinations(range(len(family)), 2)
            if not set(family[earlier]) & set(family[later])
        ]
        return min(pairs)[::-1] if pairs else None

    def test_all_meet(self):
        self.assertIsNone(apart([]))
        self.assertIsNone(apart([(3,)]))
        self.assertIsNone(apart([(0, 11)]))
        self.assertIsNone(apart([(0, 1), (0, 2), (1, 2)]))
        for size in range(2, 7):
            star = [one for one in all_sets(12, size) if 5 in one][:200]
            self.assertIsNone(apart(star))
        self.assertIsNone(apart(all_sets(5, 3)))

    def test_one_set_meets_itself(self):
        for size in range(1, 7):
            for one in all_sets(12, size)[::13]:
                self.assertIsNone(apart([one]))

    def test_ordinary_pairs(self):
        self.assertEqual(apart([(0, 1), (2, 3)]), (0, 1))
        self.assertEqual(apart([(0, 1), (1, 2), (0, 2), (3, 4)]), (0, 3))
        self.assertEqual(apart([(0,), (1,)]), (0, 1))
        self.assertEqual(apart([(0, 11), (0, 1), (1, 11), (2, 11), (0, 3)]), (1, 3))

    def test_of_several_the_least_second_place_and_then_the_least_first_one(self):
        # (0, 4) has the lesser first place, but (1, 2) the lesser second one.
        self.assertEqual(apart([(0, 1), (0, 2), (1, 3), (0, 3), (4, 5)]), (1, 2))
        self.assertEqual(apart([(0, 1), (0, 2), (3, 4)]), (0, 2))
        self.assertEqual(apart([(0, 1), (1, 2), (0, 3)]), (1, 2))

    def test_a_pair_is_a_tuple_of_places(self):
        told = apart([(0, 1), (2, 3)])
        self.assertIs(type(told), tuple)
        self.assertEqual([type(place) for place in told], [int, int])

    def test_every_small_family_in_several_orders(self):
        for things, size in ((4, 1), (4, 2), (5, 2)):
            for family in all_families(things, size):
                for other in [family] + turned_about(family):
                    self.assertEqual(apart(other), self.plain_apart(other), other)

    def test_families_of_every_size(self):
        for family in some_families():
            for other in [family] + turned_about(family):
                self.assertEqual(apart(other), self.plain_apart(other), other)

    def test_two_of_two_hundred_wherever_they_stand(self):
        far = [(0, 1, 2, 3, 4), (7, 8, 9, 10, 11)]
        meets_both = [one for one in all_sets(12, 5) if all(set(one) & set(other) for other in far) and 0 in one][:198]
        self.assertEqual(len(meets_both), 198)
        for earlier, later in ((0, 1), (0, 100), (0, 199), (99, 100), (57, 199), (198, 199)):
            family = list(meets_both)
            family.insert(earlier, far[0])
            family.insert(later, far[1])
            self.assertEqual(apart(family), (earlier, later))
            family[earlier], family[later] = family[later], family[earlier]
            self.assertEqual(apart(family), (earlier, later))


class NothingKept(RefusalCase):

    def test_what_is_handed_in_stays_as_it_was(self):
        for family in some_families():
            copy = list(family)
            for call in ASKED.values():
                call(family)
                self.assertTrue(family == copy)

    def test_what_is_told_is_not_what_was_handed_in(self):
        for family in ([], [(0, 1)], [(0, 1), (0, 2)], [(0,), (1,)]):
            self.assertIsNot(shadow(family), family)
            self.assertIsNot(pushed(family, 11, 0), family)
            self.assertIsNot(pushed(family, 0, 11), family)

    def test_what_is_done_to_a_told_list_changes_nothing(self):
        calls = [
            lambda: shadow([]), lambda: shadow([(3,)]), lambda: shadow([(0, 1, 4), (0, 2, 3)]),
            lambda: pushed([], 1, 0), lambda: pushed([(0, 1), (2, 3)], 3, 0), lambda: pushed([(0, 1)], 5, 6),
            lambda: first(2, 0), lambda: first(1, 1), lambda: first(3, 20), lambda: first(6, 200),
        ]
        for call in calls:
            told = call()
            copy = list(told)
            told.append((99, 100))
            told.reverse()
            self.assertEqual(call(), copy)
            told.clear()
            self.assertEqual(call(), copy)

    def test_a_family_changed_later_changes_nothing(self):
        family = [(0, 1, 4), (0, 2, 3)]
        thrown = shadow(family)
        moved = pushed(family, 4, 3)
        copies = list(thrown), list(moved)
        family.append((5, 6, 7))
        family.reverse()
        self.assertEqual((thrown, moved), copies)
        self.assertEqual(shadow(family), plain_shadow(family))
        self.assertEqual(apart(family), (0, 1))

    def test_a_refusal_changes_nothing(self):
        before = shadow([(0, 1), (1, 2)])
        self.assert_refused(BadFamily, shadow, [(0, 1), (1, 2), (0, 1)])
        self.assertEqual(shadow([(0, 1), (1, 2)]), before)
        self.assertEqual(pushed([(0, 1), (1, 2)], 2, 0), [(0, 1), (1, 2)])


if __name__ == "__main__":
    unittest.main()
