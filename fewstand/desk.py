"""The desk: families kept by names, which answers rows of words with texts."""

from fewstand.errors import NoLot, NoName, TooMany, Unlike
from fewstand.keeper import Keeper, keeper_of
from fewstand.lots import MOST_LOTS, best, both, is_lot
from fewstand.packings import best_packing
from fewstand.texts import show_family, show_things
from fewstand.words import names_asked_for, read_row

MOST_NAMES = 8


def start_family(held, told):
    """A new family, empty, in the stead of one that stood there."""
    name, many, size, strangers = told
    put_by_name(held, name, Keeper(many, size, strangers))
    return "ok"


def put_by_name(held, name, made):
    """Put a keeper by a name, unless that were a ninth one."""
    if name not in held and len(held) >= MOST_NAMES:
        raise TooMany("there are eight names already")
    held[name] = made


def add_lot(held, told):
    """A lot comes."""
    name, lot, worth = told
    held[name].add(lot, worth)
    return "ok"


def drop_lot(held, told):
    """A lot goes."""
    name, lot = told
    held[name].drop(lot)
    return "ok"


def undo_move(held, told):
    """The last move is undone."""
    held[told[0]].undo()
    return "ok"


def forget_name(held, told):
    """A family goes, and its name."""
    del held[told[0]]
    return "ok"


def tell_names(held, told):
    """The names, sorted."""
    return or_dash(" ".join(sorted(list(held))))


def or_dash(text):
    """The text, or a dash where it has no signs."""
    return text if text != "" else "-"


def tell_lots(held, told):
    """The family, sorted by lots."""
    return or_dash(show_family(held[told[0]].lots()))


def tell_few(held, told):
    """The told few, in its order."""
    return or_dash(show_family(held[told[0]].few()))


def tell_parts(held, told):
    """The parts of a lot, each with its share."""
    name, lot = told
    return " + ".join([show_things(part, ",") + "*" + str(share) for part, share in held[name].parts(lot)])


def tell_best(held, told):
    """The best of the family for strangers."""
    name, strangers = told
    keeper = held[name]
    if not is_lot(keeper.many, len(strangers), strangers):
        raise NoLot("strangers that are rising things of the ground are asked for")
    worth = best(keeper.lots(), strangers)
    return "none" if worth is None else str(worth)


def tell_packing(held, told):
    """The worth of a best packing of so many lots."""
    name, count = told
    keeper = held[name]
    packing = best_packing(keeper.many, keeper.size, keeper.lots(), count)
    return "none" if packing is None else str(packing[0])


def put_both(held, told):
    """Two families together, by a name, with nothing to undo."""
    name, one, other = told[0], held[told[1]], held[told[2]]
    if one.many != other.many or one.size != other.size:
        raise Unlike("families of one ground and one size are asked for")
    family = both(one.lots(), other.lots())
    if len(family) > MOST_LOTS:
        raise TooMany("more than 200 lots come together")
    put_by_name(held, name, keeper_of(one.many, one.size, one.strangers, family))
    return "ok"


ANSWERS = {
    "family": start_family,
    "add": add_lot,
    "drop": drop_lot,
    "undo": undo_move,
    "forget": forget_name,
    "names": tell_names,
    "lots": tell_lots,
    "few": tell_few,
    "parts": tell_parts,
    "best": tell_best,
    "pack": tell_packing,
    "both": put_both,
}


class Desk:
    """Families kept by names, at most eight."""

    def __init__(self):
        self.held = {}

    def say(self, row):
        """The answer to a row of words."""
        first, told = read_row(row)
        for name in names_asked_for(first, told):
            if name not in self.held:
                raise NoName("no family stands by the name")
        answer = ANSWERS[first]
        return answer(self.held, told)
