"""Rows of words for the desk: which there are, and what their words say."""

from fewstand.errors import NoRow
from fewstand.texts import read_number, read_things, read_worth

LETTERS = "abcdefghijklmnopqrstuvwxyz"
MOST_LETTERS = 6
FIGURES_OF_A_NUMBER = 4

# By their first words, what kinds of words follow. A new name need not stand for a family yet.
FORMS = {
    "family": ("new", "number", "number", "number"),
    "add": ("name", "things", "worth"),
    "drop": ("name", "things"),
    "undo": ("name",),
    "forget": ("name",),
    "names": (),
    "lots": ("name",),
    "few": ("name",),
    "parts": ("name", "things"),
    "best": ("name", "things"),
    "pack": ("name", "number"),
    "both": ("new", "name", "name"),
}


def read_row(row):
    """The first word of a row, and the list of what its other words say."""
    if not isinstance(row, str):
        raise NoRow("a text is asked for")
    first, *rest = row.split(" ")
    if first not in FORMS or len(rest) != len(FORMS[first]):
        raise NoRow("a first word with as many words as it takes is asked for")
    told = [read_word(kind, word) for kind, word in zip(FORMS[first], rest)]
    if None in told:
        raise NoRow("names, numbers, things and worths as they are written are asked for")
    return (first, told)


def read_word(kind, word):
    """What a word of that kind says, None where it is not written so."""
    if kind == "number":
        return read_number(word, FIGURES_OF_A_NUMBER)
    if kind == "things":
        return read_things(word, ",", FIGURES_OF_A_NUMBER)
    if kind == "worth":
        return read_worth(word)
    return read_name(word)


def read_name(word):
    """The name that is written so, None where it is none."""
    if len(word) < 1 or len(word) > MOST_LETTERS or not all([letter in LETTERS for letter in word]):
        return None
    return word


def names_asked_for(first, told):
    """Of a row's words the names by which families must stand."""
    return [word for kind, word in zip(FORMS[first], told) if kind == "name"]
