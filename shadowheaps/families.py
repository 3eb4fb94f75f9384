"""Families of sets of one size: their shadows, what pushing makes of them, and which sets do not meet."""

from shadowheaps.errors import BadFamily
from shadowheaps.sets import rises_below

MOST_SETS = 200
MOST_THINGS_IN_A_MEMBER = 6
THINGS_OF_FAMILIES = 12


def is_family(family):
    if len(family) > MOST_SETS:
        return False
    held = {}
    for one in family:
        if len(one) < 1 or len(one) > MOST_THINGS_IN_A_MEMBER or len(one) != len(family[0]):
            return False
        if one in held or not rises_below(one, THINGS_OF_FAMILIES):
            return False
        held[one] = True
    return True


def check_family(family):
    if not is_family(family):
        # The family is not shown: Python refuses to write very long numbers, and with another error.
        raise BadFamily("a family has at most 200 unlike sets of one size from 1 to 6, of things from 0 to 11, rising")


def from_the_greatest(one):
    # Of two sets read so, the first place where they differ has the greatest things that are not in both.
    return one[::-1]


def in_order(members):
    return sorted(members, key=from_the_greatest)


def shadow(family):
    check_family(family)
    thrown = {}
    for one in family:
        for place in range(len(one)):
            thrown[one[:place] + one[place + 1:]] = True
    return in_order(list(thrown))


def pushed_set(family, one, j, i):
    if j not in one or i in one:
        return one
    other = tuple(sorted([i if thing == j else thing for thing in one]))
    return one if other in family else other


def pushed(family, j, i):
    check_family(family)
    return in_order([pushed_set(family, one, j, i) for one in family])


def meet(one, other):
    return any([thing in other for thing in one])


def apart(family):
    check_family(family)
    for later, other in enumerate(family):
        for earlier in range(later):
            if not meet(family[earlier], other):
                return (earlier, later)
    return None


def following(one):
    place = 0
    # Only the last thing of a run without a gap can rise; those ahead of it begin from nought again.
    while place + 1 < len(one) and one[place] + 1 == one[place + 1]:
        place = place + 1
    return tuple(range(place)) + (one[place] + 1,) + one[place + 1:]


def first(size, many):
    members = [tuple(range(size))]
    while len(members) < many:
        members.append(following(members[-1]))
    # None at all may be asked for too.
    return members[:many]
