"""Families written as texts, and read again."""

from shadowheaps.errors import NoText
from shadowheaps.families import THINGS_OF_FAMILIES, check_family, is_family


def written_set(one):
    return ".".join([str(thing) for thing in one])


def shown(family):
    check_family(family)
    return " ".join([written_set(one) for one in family])


def read_set(text):
    # Each thing has just one writing, so a dict of all of them refuses needless noughts and signs that
    # Python's own reading of numbers would let through.
    writings = dict([(str(thing), thing) for thing in range(THINGS_OF_FAMILIES)])
    things = []
    for figures in text.split("."):
        if figures not in writings:
            raise NoText("between dots and blanks stands a number from 0 to 11 without a needless nought")
        things.append(writings[figures])
    return tuple(things)


def read(text):
    if text == "":
        return []
    family = [read_set(part) for part in text.split(" ")]
    if not is_family(family):
        raise NoText("the sets of this text are no family")
    return family
