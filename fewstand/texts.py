"""Families written and read, and the numbers in them."""

from fewstand.errors import NoText
from fewstand.lots import MOST_LOTS, is_lot

FIGURES = "0123456789"
MOST_FIGURES = 20


def show_family(family):
    """The family written lot by lot, as handed in."""
    return "; ".join([show_things(lot, " ") + ":" + str(worth) for lot, worth in family])


def show_things(things, between):
    """The things written with a sign between, or a dash where there are none."""
    return between.join([str(thing) for thing in things]) if len(things) > 0 else "-"


def read_family(many, size, text):
    """The family that is written so for a ground of many things and a size."""
    if not isinstance(text, str):
        raise NoText("a text is asked for")
    if text == "":
        return []
    family = [read_lot_with_worth(many, size, part) for part in text.split("; ")]
    if len(family) > MOST_LOTS or len(set([lot for lot, worth in family])) < len(family):
        raise NoText("at most 200 lots, none twice, are asked for")
    return family


def read_lot_with_worth(many, size, text):
    """The tuple (lot, worth) that is written so."""
    things, sign, number = text.partition(":")
    lot = read_things(things, " ", MOST_FIGURES)
    worth = read_worth(number)
    # Without the sign behind the things there is no number, so no worth; None is no lot.
    if worth is None or not is_lot(many, size, lot):
        raise NoText("lots of the ground and the size, with worths, are asked for")
    return (lot, worth)


def read_things(text, between, most):
    """The tuple of numbers of at most so many figures that are written so, None where none are."""
    if text == "-":
        return ()
    things = [read_number(word, most) for word in text.split(between)]
    return None if None in things else tuple(things)


def read_number(text, most):
    """The number of at most so many figures that is written so, None where none is."""
    if len(text) < 1 or len(text) > most or not all([sign in FIGURES for sign in text]):
        return None
    if text[0] == "0" and text != "0":
        return None
    return int(text)


def read_worth(text):
    """The whole number that is written so, None where none is."""
    if not text.startswith("-"):
        return read_number(text, MOST_FIGURES)
    number = read_number(text[1:], MOST_FIGURES)
    return None if number is None or number == 0 else -number
