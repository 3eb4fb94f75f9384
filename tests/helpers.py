"""What several tests need: the document's words done in the plainest way, and families right and wrong."""

import itertools
import random
import sys
import unittest

from shadowheaps.errors import BadFamily, BadSet, HeapError, NoSuch, NoText

REFUSALS = (BadSet, NoSuch, BadFamily, NoText)


class RefusalCase(unittest.TestCase):

    def assert_refused(self, refusal, call, *handed):
        with self.assertRaises(refusal) as caught:
            call(*handed)
        self.assertIsInstance(caught.exception, HeapError)
        self.assertIsInstance(caught.exception, ValueError)
        for other in REFUSALS:
            if other is not refusal:
                self.assertNotIsInstance(caught.exception, other)

    def assert_plain_set(self, one):
        self.assertIs(type(one), tuple)
        for thing in one:
            self.assertIs(type(thing), int)

    def assert_plain_sets(self, told):
        self.assertIs(type(told), list)
        for one in told:
            self.assert_plain_set(one)


def stands_ahead(one, other):
    """The order of point 3, word for word."""
    return max(set(one) - set(other)) < max(set(other) - set(one))


def ordered(sets):
    """Sets of one size in the order of point 3, each set as a tuple, rising."""
    return sorted((tuple(sorted(one)) for one in sets), key=lambda one: one[::-1])


def all_sets(things, size):
    """All sets of a size of things less than `things`, in the order of point 3."""
    return ordered(itertools.combinations(range(things), size))


def plain_shadow(sets):
    return ordered({one[:place] + one[place + 1:] for one in sets for place in range(len(one))})


def plain_pushed(sets, j, i):
    """Point 9, word for word."""
    held = {frozenset(one) for one in sets}
    pushed = []
    for one in held:
        other = one - {j} | {i}
        pushed.append(other if j in one and i not in one and other not in held else one)
    return ordered(pushed)


def all_meet(sets):
    return all(set(one) & set(other) for one, other in itertools.combinations(sets, 2))


def all_families(things, size):
    """Every family of sets of a size of things less than `things`, the empty one among them."""
    sets = all_sets(things, size)
    for many in range(len(sets) + 1):
        for family in itertools.combinations(sets, many):
            yield list(family)


def some_families():
    """Families of every size, small and great, in any order; the same ones in each run."""
    chance = random.Random(1963)
    for size in range(1, 7):
        for things in range(size, 13):
            sets = all_sets(things, size)
            most = min(len(sets), 200)
            for many in sorted({1, 2, 3, most // 4, most // 2, most - 1, most}):
                if 0 < many <= most:
                    yield chance.sample(sets, many)


def turned_about(family):
    """The family in some other orders of its list."""
    half = len(family) // 2
    return [family[::-1], family[half:] + family[:half], family[::2] + family[1::2], sorted(family)]


GOOD_SETS = {
    1: [(2,), (0,), (11,), (5,), (7,)],
    2: [(2, 11), (0, 1), (10, 11), (0, 5), (3, 4)],
    3: [(1, 4, 11), (0, 1, 2), (9, 10, 11), (0, 5, 6), (2, 3, 7)],
    4: [(1, 4, 6, 11), (0, 1, 2, 3), (8, 9, 10, 11), (0, 5, 6, 9), (2, 3, 7, 8)],
    5: [(1, 4, 6, 9, 11), (0, 1, 2, 3, 4), (7, 8, 9, 10, 11), (0, 3, 5, 6, 9), (1, 2, 3, 7, 8)],
    6: [(1, 3, 4, 6, 9, 11), (0, 1, 2, 3, 4, 5), (6, 7, 8, 9, 10, 11), (0, 3, 5, 6, 8, 9), (1, 2, 3, 5, 7, 8)],
}


def put(row, place, value):
    """The list or tuple with another value in one place."""
    copy = list(row)
    copy[place] = value
    return type(row)(copy)


def bad_members(one):
    """Tuples that no family of sets of this size has."""
    free = [thing for thing in range(12) if thing not in one]
    yield "no thing", ()
    yield "a thing less", one[1:]
    yield "a thing less", one[:-1]
    yield "a thing more", tuple(sorted(one + (free[0],)))
    yield "a thing more", tuple(sorted(one + (free[-1],)))
    yield "seven things", tuple(range(7))
    yield "seven things", tuple(range(5, 12))
    for place in range(len(one)):
        for thing in (-1, -2, -12, 12, 13, 60, 10 ** 30, -10 ** 30):
            yield f"thing {thing}", put(one, place, thing)
    yield "thing -1 ahead", (-1,) + one[1:]
    yield "thing 12 at the end", one[:-1] + (12,)
    for place, other in itertools.combinations(range(len(one)), 2):
        yield "two things exchanged", put(put(one, place, one[other]), other, one[place])
    for place in range(len(one) - 1):
        yield "one thing twice", put(one, place, one[place + 1])
        yield "one thing twice", put(one, place + 1, one[place])
        yield "one thing twice, and one more", one[:place + 1] + one[place:]


def bad_families():
    """Lists of tuples of whole numbers that are no families, each with a word on why."""
    for size, good in GOOD_SETS.items():
        for place in (0, 2, 4):
            for why, one in bad_members(good[place]):
                yield f"size {size}, place {place}: {why}", put(good, place, one)
                yield f"size {size}, put in at {place}: {why}", good[:place] + [one] + good[place:]
        for place in range(6):
            for one in good:
                yield f"size {size}, put in at {place}: there already", good[:place] + [one] + good[place:]
        yield f"size {size}: one set twice", [good[0], good[0]]
        yield f"size {size}: all sets twice", good + good
    yield from bad_through_and_through()
    yield from too_many()


def bad_through_and_through():
    """Lists without a single good set, so that no set is unlike the others."""
    for many in (1, 2, 3):
        yield f"{many} sets without things", [()] * many
        for size in (7, 8, 12):
            sets = list(itertools.islice(itertools.combinations(range(12), size), many))
            yield f"{len(sets)} sets of {size} things", sets
    for size, good in GOOD_SETS.items():
        yield f"size {size}: all things too great", [tuple(thing + 12 for thing in one) for one in good]
        yield f"size {size}: all things too small", [tuple(thing - 12 for thing in one) for one in good]
        if size > 1:
            yield f"size {size}: all sets falling", [one[::-1] for one in good]
        for why, one in bad_members(good[0]):
            if not (why.startswith("a thing") and 1 <= len(one) <= 6):
                yield f"size {size}, alone: {why}", [one]
    yield "a number too long to be written", [(0, 10 ** 5000)]
    yield "a number too long to be written, below nought", [(-10 ** 5000, 3), (1, 2)]


def too_many():
    for size in (3, 4, 5, 6):
        sets = all_sets(12, size)
        for many in (201, 202, 220):
            yield f"{many} sets of {size} things", sets[:many]
            yield f"{many} sets of {size} things, turned about", sets[:many][::-1]
        for place in (0, 100, 200):
            yield f"200 sets and one again at {place}", sets[:place] + [sets[7]] + sets[place:200]
            yield f"200 sets and (0, 1) at {place}", sets[:place] + [(0, 1)] + sets[place:200]
        for place in (0, 100, 199):
            yield f"200 sets, one twice at {place}", put(sets[:200], place, sets[50])
            yield f"200 sets, one falling at {place}", put(sets[:200], place, sets[place][::-1])
    yield "all sets of six things", all_sets(12, 6)
    yield "a set 300 times", [(0, 1)] * 300


class TooManySteps(Exception):
    pass


def within_steps(most, call, *handed):
    """What the call answers, if it takes no more rows of code than told."""
    taken = 0

    def count(frame, event, arg):
        nonlocal taken
        taken += event == "line"
        if taken > most:
            raise TooManySteps(f"more than {most} steps")
        return count

    before = sys.gettrace()
    sys.settrace(count)
    try:
        return call(*handed)
    finally:
        sys.settrace(before)
