"""Keepers: families whose lots come and go, with moves that can be undone."""

from fewstand.errors import NoLot, NoMove, NoNumber, TooMany, Twice
from fewstand.few import few_of, look_at_sizes
from fewstand.lots import MOST_LOTS, is_lot
from fewstand.numbers import is_whole
from fewstand.papers import told_paper


class Keeper:
    """A family for a ground of many things, a size and so many strangers."""

    def __init__(self, many, size, strangers):
        look_at_sizes(many, size, strangers)
        self.many = many
        self.size = size
        self.strangers = strangers
        self.worths = {}
        # Of each move its lot, and what it was worth ahead of it, None where it wasn't there.
        self.done = []
        # The paper of the family as it is now, None until it is asked for.
        self.known = None

    def add(self, lot, worth):
        """Add a lot with a worth."""
        if not is_lot(self.many, self.size, lot):
            raise NoLot("a lot of the ground and the size is asked for")
        if not is_whole(worth):
            raise NoNumber("a worth that is a whole number is asked for")
        if lot in self.worths:
            raise Twice("the lot is there already")
        if len(self.worths) >= MOST_LOTS:
            raise TooMany("there are 200 lots already")
        self.done.append((lot, None))
        self.worths[lot] = worth
        self.known = None

    def drop(self, lot):
        """Drop a lot that is there."""
        self.look_for(lot)
        self.done.append((lot, self.worths[lot]))
        del self.worths[lot]
        self.known = None

    def look_for(self, lot):
        """Refuse, with NoLot, what is no lot that is there."""
        if not is_lot(self.many, self.size, lot) or lot not in self.worths:
            raise NoLot("a lot that is there is asked for")

    def undo(self):
        """Undo the last move that isn't undone."""
        if len(self.done) == 0:
            raise NoMove("there is nothing to undo")
        lot, worth = self.done.pop()
        if worth is None:
            del self.worths[lot]
        else:
            self.worths[lot] = worth
        self.known = None

    def lots(self):
        """The family, sorted by lots."""
        return sorted(list(self.worths.items()))

    def few(self):
        """The told few of the family."""
        return few_of(self.many, self.size, self.strangers, self.lots())

    def paper(self):
        """The told paper of the family."""
        few, sums = self.paper_now()
        return (list(few), [(lot, list(parts)) for lot, parts in sums])

    def paper_now(self):
        """The told paper of the family, as the keeper's own."""
        if self.known is None:
            self.known = told_paper(self.many, self.size, self.strangers, self.lots())
        return self.known

    def parts(self, lot):
        """The parts of a lot that is there, as in the paper; of one of the few itself, once."""
        self.look_for(lot)
        few, sums = self.paper_now()
        for one, parts in sums:
            if one == lot:
                return list(parts)
        return [(lot, 1)]

    def moves(self):
        """How many moves can be undone."""
        return len(self.done)

    def twin(self):
        """Another keeper with the same family, and as much to undo."""
        other = keeper_of(self.many, self.size, self.strangers, self.lots())
        other.done = list(self.done)
        return other

    def __len__(self):
        return len(self.worths)

    def __eq__(self, other):
        if not isinstance(other, Keeper):
            return False
        if self.many != other.many or self.size != other.size or self.strangers != other.strangers:
            return False
        return self.worths == other.worths


def keeper_of(many, size, strangers, family):
    """A keeper that has the family at once, with nothing to undo."""
    made = Keeper(many, size, strangers)
    made.worths = {lot: worth for lot, worth in family}
    return made
