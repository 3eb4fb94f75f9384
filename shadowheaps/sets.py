"""Sets of things, and the numbers that the sets of one size have."""

from shadowheaps.errors import BadSet, NoSuch

MOST_THINGS_IN_A_SET = 8
THINGS = 60


def choices(a, b):
    if b > a:
        return 0
    ways = 1
    # Leaving out a - b things is the same choice as taking b, so the shorter walk will do.
    for taken in range(min(b, a - b)):
        # The division is exact: the product is C(a, taken + 1) * (taken + 1).
        ways = ways * (a - taken) // (taken + 1)
    return ways


def rises_below(one, bound):
    # Nought is the least thing, so what stands ahead of the first one counts as -1.
    before = -1
    for thing in one:
        if thing <= before or thing >= bound:
            return False
        before = thing
    return True


def number_of(one):
    if len(one) > MOST_THINGS_IN_A_SET or not rises_below(one, THINGS):
        # The set is not shown: Python refuses to write very long numbers, and with another error.
        raise BadSet("a set with a number has at most 8 things, rising, from 0 to 59")
    return sum([choices(thing, place) for place, thing in enumerate(one, start=1)])


def set_at(size, number):
    if number < 0 or number >= choices(THINGS, size):
        raise NoSuch("no set of this size has this number")
    falling = []
    left = number
    thing = THINGS - 1
    for place in range(size, 0, -1):
        # The greatest thing that fits is the one to take: what is left is then less than
        # C(thing, place - 1), so the next thing is a lesser one, and the walk never turns back.
        while choices(thing, place) > left:
            thing = thing - 1
        left = left - choices(thing, place)
        falling.append(thing)
    return tuple(reversed(falling))
