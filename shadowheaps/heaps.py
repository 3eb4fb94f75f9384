"""The heap of a number, the least shadow, and the greatest families whose sets meet each other."""

from shadowheaps.families import first
from shadowheaps.sets import choices


def greatest_fitting(place, left):
    # C(place, place) is one and fits; C(place + left, place) is left + 1 or more and does not.
    # The gap is halved, so that a great number takes few steps too.
    fits = place
    over = place + left
    while over - fits > 1:
        middle = (fits + over) // 2
        if choices(middle, place) > left:
            over = middle
        else:
            fits = middle
    return fits


def heap(size, many):
    row = []
    left = many
    for place in range(size, 0, -1):
        if left <= 0:
            break
        # What is left behind the greatest one is less than C(greatest, place - 1), so the row falls; behind
        # a lesser one more would be left than a falling row can make up.
        greatest = greatest_fitting(place, left)
        row.append(greatest)
        left = left - choices(greatest, place)
    return row


def least_shadow(size, many):
    return sum([choices(greatest, size - 1 - place) for place, greatest in enumerate(heap(size, many))])


def always_meet(things, size):
    return things < 2 * size


def most_meeting(things, size):
    if always_meet(things, size):
        return choices(things, size)
    return choices(things - 1, size - 1)


def meeting(things, size):
    # The sets with the least numbers are just the sets of the least things.
    family = first(size, choices(things, size))
    if always_meet(things, size):
        return family
    return [one for one in family if 0 in one]
