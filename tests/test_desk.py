import itertools
import random
import unittest

from fewstand.desk import Desk
from fewstand.errors import LotError, NoLot, NoMove, NoName, NoRow, NoSize, TooMany, Twice, Unlike
from fewstand.few import few_of
from fewstand.keeper import Keeper
from fewstand.lots import both
from fewstand.packings import best_packing
from fewstand.papers import paper_of
from fewstand.texts import show_family
from tests.kinds import best_of, things_of_other_kinds

NAMES = ["a", "bb", "ccc", "dddd", "eeeee", "ffffff", "g", "h"]


def things(lot):
    return ",".join(str(thing) for thing in lot) or "-"


class Rows(unittest.TestCase):
    def desk(self, *rows):
        told = Desk()
        for row in rows:
            self.assertEqual(told.say(row), "ok")
        return told

    def state(self, desk):
        """What the desk tells of all that it keeps."""
        names = desk.say("names")
        told = [names]
        for name in [] if names == "-" else names.split(" "):
            told += [name, desk.say("lots " + name), desk.say("few " + name), desk.say(f"best {name} -"), desk.say(f"pack {name} 1")]
        return told

    def refused(self, desk, error, *rows):
        for row in rows:
            with self.subTest(repr(row)):
                ahead = self.state(desk)
                with self.assertRaises(error) as caught:
                    desk.say(row)
                self.assertIs(type(caught.exception), error)
                self.assertIsInstance(caught.exception, LotError)
                self.assertEqual(self.state(desk), ahead)


class Answers(Rows):
    def test_each_row_with_its_answer(self):
        desk = Desk()
        for row, answer in [
                ("names", "-"),
                ("family b 4 1 1", "ok"), ("names", "b"), ("lots b", "-"), ("few b", "-"), ("best b -", "none"), ("pack b 0", "0"),
                ("pack b 1", "none"), ("add b 3 1", "ok"), ("add b 0 4", "ok"), ("add b 2 2", "ok"), ("add b 1 4", "ok"),
                ("lots b", "0:4; 1:4; 2:2; 3:1"), ("few b", "0:4; 1:4"), ("parts b 2", "0*4 + 1*2"), ("parts b 3", "0*3 + 1*3"),
                ("parts b 0", "0*1"), ("best b -", "4"), ("best b 0,1", "2"), ("best b 0,1,2,3", "none"), ("pack b 2", "8"),
                ("pack b 4", "11"), ("pack b 5", "none"), ("drop b 0", "ok"), ("few b", "1:4; 2:2"), ("undo b", "ok"),
                ("few b", "0:4; 1:4"), ("undo b", "ok"), ("lots b", "0:4; 2:2; 3:1"),
                ("family a 10 2 3", "ok"), ("names", "a b"), ("add a 3,7 -12", "ok"), ("add a 0,9 0", "ok"), ("lots a", "0 9:0; 3 7:-12"),
                ("few a", "0 9:0; 3 7:-12"), ("parts a 3,7", "3,7*1"), ("best a 9", "-12"), ("best a 0", "-12"), ("best a 5,6", "0"),
                ("best a 7,9", "none"), ("pack a 2", "-12"), ("pack a 3", "none"),
                ("family a 3 0 2", "ok"), ("lots a", "-"), ("add a - 5", "ok"), ("lots a", "-:5"), ("few a", "-:5"), ("parts a -", "-*1"),
                ("best a 0,1,2", "5"), ("best a -", "5"), ("pack a 1", "5"), ("pack a 2", "none"), ("drop a -", "ok"), ("lots a", "-"),
                ("forget b", "ok"), ("names", "a"), ("both c a a", "ok"), ("names", "a c"), ("forget a", "ok"), ("forget c", "ok"),
                ("names", "-")]:
            with self.subTest(row):
                told = desk.say(row)
                self.assertEqual(told, answer)
                self.assertIs(type(told), str)

    def test_against_a_keeper(self):
        chance = random.Random(171)
        for many, size, strangers in [(6, 2, 2), (5, 1, 1), (8, 3, 2), (4, 0, 3)]:
            desk, keeper = self.desk(f"family it {many} {size} {strangers}"), Keeper(many, size, strangers)
            lots = list(itertools.combinations(range(many), size))
            for turn in range(40):
                lot, deed = chance.choice(lots), chance.choice(["add", "add", "drop", "undo"])
                worth = chance.randint(-9, 9)
                row = {"add": f"add it {things(lot)} {worth}", "drop": f"drop it {things(lot)}", "undo": "undo it"}[deed]
                try:
                    {"add": lambda: keeper.add(lot, worth), "drop": lambda: keeper.drop(lot), "undo": keeper.undo}[deed]()
                except LotError as error:
                    self.refused(desk, type(error), row)
                else:
                    self.assertEqual(desk.say(row), "ok")
                self.look(desk, "it", many, size, strangers, keeper.lots(), chance)

    def look(self, desk, name, many, size, strangers, family, chance):
        self.assertEqual(desk.say("lots " + name), show_family(sorted(family)) or "-")
        self.assertEqual(desk.say("few " + name), show_family(few_of(many, size, strangers, family)) or "-")
        sums = dict(paper_of(many, size, strangers, family)[1])
        for lot, worth in family:
            good = " + ".join(f"{things(part)}*{share}" for part, share in sums.get(lot, [(lot, 1)]))
            self.assertEqual(desk.say(f"parts {name} {things(lot)}"), good)
        for count in range(4):
            some = tuple(sorted(chance.sample(range(many), min(many, count))))
            good = best_of(family, some)
            self.assertEqual(desk.say(f"best {name} {things(some)}"), "none" if good is None else str(good))
        for count in range(8 // max(1, size) + 1):
            good = best_packing(many, size, family, count)
            self.assertEqual(desk.say(f"pack {name} {count}"), "none" if good is None else str(good[0]))

    def test_family_in_the_stead_of_one(self):
        desk = self.desk("family a 4 1 1", "add a 0 5", "add a 1 5")
        self.assertEqual(desk.say("family a 6 2 0"), "ok")
        self.assertEqual(desk.say("lots a"), "-")
        self.refused(desk, NoMove, "undo a")
        self.assertEqual(desk.say("add a 4,5 1"), "ok")
        self.refused(desk, NoLot, "add a 0 5")
        self.assertEqual(desk.say("names"), "a")

    def test_undo_down_to_nothing(self):
        desk = self.desk("family a 4 1 1", "add a 0 5", "drop a 0", "add a 0 7", "add a 1 5")
        seen = []
        for turn in range(4):
            self.assertEqual(desk.say("undo a"), "ok")
            seen.append(desk.say("lots a"))
        self.assertEqual(seen, ["0:7", "-", "0:5", "-"])
        self.refused(desk, NoMove, "undo a", "undo a")

    def test_names_sorted(self):
        desk = Desk()
        for name in ["zeta", "b", "ab", "a", "zz", "z", "ba", "aaaaaa"]:
            desk.say(f"family {name} 3 1 1")
        self.assertEqual(desk.say("names"), "a aaaaaa ab b ba z zeta zz")
        self.assertEqual(desk.say("forget b"), "ok")
        self.assertEqual(desk.say("names"), "a aaaaaa ab ba z zeta zz")

    def test_names_that_are_words_of_rows(self):
        desk = self.desk("family add 4 1 1", "family names 4 1 1", "family family 4 1 1", "family none 4 1 1", "add add 0 5")
        self.assertEqual(desk.say("names"), "add family names none")
        self.assertEqual(desk.say("both both add names"), "ok")
        self.assertEqual(desk.say("lots both"), "0:5")

    def test_names_of_one_to_six_letters(self):
        for name in ["a", "z", "ab", "abc", "abcd", "abcde", "abcdef", "zzzzzz"]:
            desk = self.desk(f"family {name} 4 1 1", f"add {name} 0 5", f"both {name} {name} {name}")
            self.assertEqual(desk.say("lots " + name), "0:5")

    def test_great_worths(self):
        desk = self.desk("family a 4 1 1", "add a 0 " + "9" * 20, "add a 1 -" + "9" * 20, "add a 2 " + "9" * 20)
        self.assertEqual(desk.say("best a -"), "9" * 20)
        self.assertEqual(desk.say("pack a 2"), "1" + "9" * 19 + "8")
        self.assertEqual(desk.say("lots a"), f"0:{'9' * 20}; 1:-{'9' * 20}; 2:{'9' * 20}")

    def test_two_hundred_lots(self):
        lots = list(itertools.combinations(range(30), 2))
        desk = self.desk("family a 30 2 0", *[f"add a {things(lot)} 1" for lot in lots[:200]])
        self.refused(desk, TooMany, f"add a {things(lots[200])} 1")
        self.refused(desk, Twice, f"add a {things(lots[0])} 1")
        self.refused(desk, NoLot, "add a 1,0 1", "add a 0,30 1", "add a 0 1")
        self.assertEqual(desk.say(f"drop a {things(lots[0])}"), "ok")
        self.assertEqual(desk.say(f"add a {things(lots[200])} 1"), "ok")


class Both(Rows):
    def test_by_a_new_name_and_by_that_of_one(self):
        start = ["family a 4 1 1", "add a 0 5", "add a 1 3", "family b 4 1 2", "add b 1 4", "add b 2 -1"]
        for name in ["c", "a", "b"]:
            desk = self.desk(*start)
            self.assertEqual(desk.say(f"both {name} a b"), "ok")
            self.assertEqual(desk.say("lots " + name), "0:5; 1:4; 2:-1")
            # One stranger, as of a: two lots are enough.
            self.assertEqual(desk.say("few " + name), "0:5; 1:4")
            self.refused(desk, NoMove, "undo " + name)
            desk = self.desk(*start)
            self.assertEqual(desk.say(f"both {name} b a"), "ok")
            self.assertEqual(desk.say("lots " + name), "0:5; 1:4; 2:-1")
            self.assertEqual(desk.say("few " + name), "0:5; 1:4; 2:-1")

    def test_the_others_stay(self):
        desk = self.desk("family a 4 1 1", "add a 0 5", "family b 4 1 2", "add b 1 4", "family c 9 3 0", "both c a b")
        self.assertEqual([desk.say("lots " + name) for name in "abc"], ["0:5", "1:4", "0:5; 1:4"])
        self.assertEqual(desk.say("undo a"), "ok")
        self.assertEqual(desk.say("undo b"), "ok")
        self.assertEqual([desk.say("lots " + name) for name in "abc"], ["-", "-", "0:5; 1:4"])

    def test_apart_from_both(self):
        desk = self.desk("family a 4 1 1", "add a 0 5", "family b 4 1 1", "add b 1 4", "both c a b", "both d a a")
        self.desk_rows(desk, "add c 2 9", "drop c 0", "drop a 0", "add a 3 1", "undo b")
        self.assertEqual([desk.say("lots " + name) for name in "abcd"], ["3:1", "-", "1:4; 2:9", "0:5"])
        self.desk_rows(desk, "undo c", "undo c", "add d 1 1")
        self.refused(desk, NoMove, "undo c", "undo b")
        self.assertEqual([desk.say("lots " + name) for name in "abcd"], ["3:1", "-", "0:5; 1:4", "0:5; 1:1"])
        self.desk_rows(desk, "forget a", "forget b")
        self.assertEqual(desk.say("lots c"), "0:5; 1:4")

    def desk_rows(self, desk, *rows):
        for row in rows:
            self.assertEqual(desk.say(row), "ok")

    def test_one_with_itself(self):
        desk = self.desk("family a 4 1 1", "add a 0 5", "both a a a")
        self.assertEqual(desk.say("lots a"), "0:5")
        self.refused(desk, NoMove, "undo a")

    def test_some_families(self):
        chance = random.Random(172)
        lots = list(itertools.combinations(range(6), 2))
        for turn in range(20):
            one = [(lot, chance.randint(-3, 3)) for lot in chance.sample(lots, 6)]
            other = [(lot, chance.randint(-3, 3)) for lot in chance.sample(lots, 6)]
            desk = self.desk("family one 6 2 1", *[f"add one {things(lot)} {worth}" for lot, worth in one], "family other 6 2 3",
                             *[f"add other {things(lot)} {worth}" for lot, worth in other], "both new one other")
            self.assertEqual(desk.say("lots new"), show_family(both(one, other)))
            self.assertEqual(desk.say("few new"), show_family(few_of(6, 2, 1, both(one, other))))

    def full(self, one, other, most):
        """Two families, with so many lots each, and most together."""
        lots = list(itertools.combinations(range(30), 2))
        return self.desk("family a 30 2 0", *[f"add a {things(lot)} 1" for lot in lots[:one]], "family b 30 2 0",
                         *[f"add b {things(lot)} 2" for lot in lots[most - other:most]])

    def test_two_hundred_lots_together_and_more(self):
        for one, other, most in [(100, 100, 200), (200, 200, 200), (150, 100, 200), (1, 199, 200), (200, 0, 200)]:
            desk = self.full(one, other, most)
            self.assertEqual(desk.say("both c a b"), "ok")
            self.assertEqual(len(desk.say("lots c").split("; ")), 200)
        for one, other, most in [(100, 101, 201), (200, 200, 201), (200, 1, 201), (200, 200, 400)]:
            desk = self.full(one, other, most)
            self.refused(desk, TooMany, "both c a b", "both a a b", "both b b a")

    def test_unlike(self):
        desk = self.desk("family a 4 1 1", "family b 5 1 1", "family c 4 2 1", "family d 4 1 3", "add a 0 1", "add b 0 1")
        self.refused(desk, Unlike, "both n a b", "both n b a", "both n a c", "both n c a", "both a a b", "both b a b", "both n b c")
        self.assertEqual(desk.say("both n a d"), "ok")

    def test_unlike_ahead_of_too_many(self):
        desk = self.full(200, 200, 400)
        for row in ["family c 29 2 0", "family d 30 1 0"]:
            desk.say(row)
        self.refused(desk, Unlike, "both n a c", "both n c a", "both n a d")
        self.refused(desk, TooMany, "both n a b")
        for name in ["e", "f", "g", "h"]:
            desk.say(f"family {name} 30 2 0")
        self.refused(desk, Unlike, "both n a c", "both n c b", "both n d a")
        self.refused(desk, TooMany, "both n a b", "both n a e", "both n e f")
        self.assertEqual(desk.say("both e a f"), "ok")

    def test_more_than_two_hundred_lots_of_unlike_ones(self):
        """Unlike also where more than 200 lots would come together."""
        lots = list(itertools.combinations(range(22), 2))
        desk = self.desk("family a 22 2 0", *[f"add a {things(lot)} 1" for lot in lots[:200]], "family b 23 2 0",
                         *[f"add b {things(lot)} 1" for lot in lots[30:230]])
        self.refused(desk, Unlike, "both n a b", "both a a b")


class Refusals(Rows):
    def filled(self):
        return self.desk("family a 4 1 1", "add a 0 5", "add a 1 3", "family b 5 2 2", "add b 0,1 4")

    def test_what_is_no_text(self):
        desk = self.filled()
        self.refused(desk, NoRow, *[thing for thing in things_of_other_kinds() if not isinstance(thing, str)])
        self.refused(desk, NoRow, b"names", ["names"], ("names",), ["add", "a", "2", "5"], {"names": 1}, 5, None)

    def test_another_first_word(self):
        self.refused(self.filled(), NoRow, "", " ", "name", "namesx", "Names", "NAMES", "nam es", "help", "a", "0", "-", "families a 4 1 1",
                     "Add a 2 5", "adds a 2 5", "remove a 0", "packs a 1", "show a", "read a", "paper a", "moves a", "len a", "twin a b",
                     "new", "number", "things", "worth", "None", "say names", "names\n", "\nnames", "names\t", "undo\ta", "lots\na")

    def test_too_few_and_too_many_words(self):
        self.refused(self.filled(), NoRow, "family", "family c", "family c 4", "family c 4 1", "family c 4 1 1 1", "add", "add a", "add a 2",
                     "add a 2 5 5", "drop", "drop a", "drop a 0 5", "drop a 0 0", "undo", "undo a a", "undo a 1", "forget",
                     "forget a b", "names a", "names -", "lots", "lots a b", "few", "few a b", "few a 1", "parts", "parts a", "parts a 0 1",
                     "best", "best a", "best a 0 1", "pack", "pack a", "pack a 1 1", "both", "both c", "both c a", "both c a b b", "both a a a a")

    def test_blanks(self):
        good = ["family c 4 1 1", "add a 2 5", "drop a 0", "undo a", "forget a", "names", "lots a", "few a", "parts a 0", "best a 0",
                "pack a 1", "both c a a"]
        for row in good:
            desk = self.filled()
            self.refused(desk, NoRow, " " + row, row + " ", "  " + row, row + "  ", row + "\n", row + "\t", "\t" + row, row + "\u00a0")
            for at, sign in enumerate(row):
                if sign == " ":
                    self.refused(desk, NoRow, row[:at] + " " + row[at:], row[:at] + row[at + 1:], row[:at] + "\t" + row[at + 1:],
                                 row[:at] + "\n" + row[at + 1:], row[:at] + "\u00a0" + row[at + 1:], row[:at] + "," + row[at + 1:])
            desk.say(row)

    def test_names(self):
        desk = self.filled()
        for name in ["", "abcdefg", "A", "aB", "a1", "1", "a_b", "a-b", "-", "\u00e4", "\u00df", "a.", "a,b", "\u0430", "a\n", "aaaaaaaaaaaa", "\u00aa"]:
            self.refused(desk, NoRow, f"family {name} 4 1 1", f"add {name} 2 5", f"drop {name} 0", f"undo {name}", f"forget {name}",
                         f"lots {name}", f"few {name}", f"parts {name} 0", f"best {name} 0", f"pack {name} 1", f"both {name} a a",
                         f"both c {name} a", f"both c a {name}")

    def test_numbers(self):
        desk = self.filled()
        for number in ["", "01", "00", "0004", "-1", "-0", "+1", "10000", "00001", "99999", "1.0", "1e1", "a", "one", "\u0661", "\u00b2", "1_0", "4,",
                       "1,2", "-", "0x1", "1\n", "\uff11"]:
            self.refused(desk, NoRow, f"family c {number} 1 1", f"family c 4 {number} 1", f"family c 4 1 {number}", f"pack a {number}",
                         f"pack none {number}")
        self.refused(desk, NoSize, "family c 9999 1 1", "family c 4 9999 1", "family c 4 1 9999", "pack a 9999", "family c 1000 1 1")
        self.refused(desk, NoSize, "family c 999 1 1", "pack a 99", "pack a 9")

    def test_things(self):
        desk = self.filled()
        for text in ["", ",", "0,", ",0", "0,,1", "00", "01", "0,01", "-1", "--", "-,0", "0,-", "+1", "10000", "0,10000", "a", "0;1", "0.1",
                     "\u0661", "0,\u00b2", "0-1", "1\n", "(0)", "0,1,", "-0", "12345"]:
            self.refused(desk, NoRow, f"add a {text} 5", f"drop a {text}", f"parts a {text}", f"best a {text}", f"best none {text}")
        self.refused(desk, NoLot, "add a 9999 5", "drop a 9999", "parts a 9999", "best a 9999", "add a 0,9999 5")

    def test_worths(self):
        desk = self.filled()
        for worth in ["", "-", "-0", "00", "01", "-01", "+1", "--1", "1.0", "1e1", "a", "None", "1" * 21, "-" + "1" * 21, "\u0661", "1_0", "1,0",
                      "0x1", "1\n", "0" * 20]:
            self.refused(desk, NoRow, f"add a 2 {worth}", f"add none 2 {worth}", f"add a 0 {worth}", f"add a 9 {worth}")
        for worth in ["0", "-1", "10", "9" * 20, "-" + "9" * 20]:
            self.assertEqual(desk.say(f"add a 2 {worth}"), "ok")
            self.assertEqual(desk.say("lots a"), f"0:5; 1:3; 2:{worth}")
            self.assertEqual(desk.say("undo a"), "ok")

    def test_no_name(self):
        desk = self.filled()
        self.refused(desk, NoName, "add c 2 5", "drop c 0", "undo c", "forget c", "lots c", "few c", "parts c 0", "best c 0", "pack c 1",
                     "both a c a", "both a a c", "both n c a", "both n a c", "both n c d", "lots aa", "lots ab", "forget x")
        desk.say("forget a")
        self.refused(desk, NoName, "add a 2 5", "undo a", "forget a", "lots a", "both c a b", "both c b a")

    def test_no_name_ahead_of_what_the_points_refuse(self):
        desk = self.filled()
        self.refused(desk, NoName, "add c 9,8 5", "drop c 9,8", "parts c 9,8", "best c 9,8", "pack c 9999", "both a c b", "both c c c",
                     "add c 9999 5")
        # Unlike ones, one of which isn't there.
        self.refused(desk, NoName, "both n a x", "both n x b", "both n x y")
        for name in ["c", "d", "e", "f", "g", "h"]:
            desk.say(f"family {name} 4 1 1")
        self.refused(desk, NoName, "both n x a", "both n a x")

    def test_no_row_ahead_of_no_name(self):
        self.refused(self.filled(), NoRow, "add c 2", "add c 02 5", "add c 2 -0", "drop c 0,", "parts c", "best c ,", "pack c 01", "pack c -1",
                     "both n c", "both n c A", "both N c d", "both n C d", "undo c c")

    def test_no_size(self):
        desk = self.filled()
        self.refused(desk, NoSize, "family a 0 1 1", "family a 31 1 1", "family a 4 9 0", "family a 4 0 9", "family a 4 5 4", "family a 4 8 1",
                     "family c 0 0 0", "family c 4 1 8", "family c 30 9 9", "pack a 9", "pack b 5", "pack b 8", "pack b 9")
        for row in ["family c 1 0 0", "family c 30 8 0", "family c 30 0 8", "family c 30 4 4"]:
            self.assertEqual(desk.say(row), "ok")

    def test_no_lot(self):
        desk = self.filled()
        self.refused(desk, NoLot, "add a - 5", "add a 4 5", "add a 0,1 5", "add b 0 5", "add b 1,0 5", "add b 1,1 5", "add b 0,5 5",
                     "add b 0,1,2 5", "drop a 2", "drop a 4", "drop a -", "drop a 0,1", "drop b 1,0", "drop b 1,2", "parts a 2", "parts a 4",
                     "parts a -", "parts b 1,0", "parts b 2,3", "best a 4", "best a 1,0", "best a 1,1", "best a 0,1,2,3,4", "best b 5",
                     "best b 0,2,1", "best a 9999")
        for row, answer in [("best a 0,1,2,3", "none"), ("best a -", "5"), ("best b 2,3,4", "4"), ("best b 0,1,2,3,4", "none")]:
            self.assertEqual(desk.say(row), answer)

    def test_twice_and_no_move(self):
        desk = self.filled()
        self.refused(desk, Twice, "add a 0 5", "add a 0 6", "add b 0,1 4")
        desk.say("undo b")
        self.refused(desk, NoMove, "undo b")
        desk.say("family c 3 1 1")
        self.refused(desk, NoMove, "undo c")

    def test_a_ninth_name(self):
        desk = self.desk(*[f"family {name} 4 1 1" for name in NAMES])
        self.assertEqual(desk.say("names"), " ".join(sorted(NAMES)))
        self.refused(desk, TooMany, "family i 4 1 1", "both i a g", "family nine 30 8 0")
        self.refused(desk, NoSize, "family i 0 1 1", "family i 4 5 4", "family i 31 9 9")
        self.refused(desk, NoName, "both i x a", "both i a x", "both i i a")
        self.refused(desk, NoRow, "family i 4 1", "family I 4 1 1", "both i a", "family i 4 1 01")
        for row in ["family a 5 2 2", "both g h h", "both h g g"]:
            self.assertEqual(desk.say(row), "ok")
        self.refused(desk, Unlike, "both i a g", "both i g a")
        self.refused(desk, TooMany, "both i g h", "both i a a")
        self.assertEqual(desk.say("forget g"), "ok")
        self.assertEqual(desk.say("both i h h"), "ok")
        self.refused(desk, TooMany, "family g 4 1 1")

    def test_refused_moves_leave_as_much_to_undo(self):
        desk = self.filled()
        for row in ["add a 0 5", "add a 9 5", "drop a 2", "drop a 9", "add a 2 -0", "parts a 2", "best a 9", "pack a 9", "both a a b", "both a a x",
                    "family a 0 1 1", "family a 4 9 9", "lots A"]:
            with self.assertRaises(LotError):
                desk.say(row)
        self.assertEqual([desk.say("undo a"), desk.say("lots a"), desk.say("undo a"), desk.say("lots a")], ["ok", "0:5", "ok", "-"])
        self.refused(desk, NoMove, "undo a")

    def test_two_desks_are_apart(self):
        one, other = self.filled(), Desk()
        self.assertEqual(other.say("names"), "-")
        self.refused(other, NoName, "lots a")
        other.say("family a 9 3 1")
        other.say("add a 6,7,8 1")
        self.assertEqual((one.say("lots a"), other.say("lots a")), ("0:5; 1:3", "6 7 8:1"))
        one.say("forget a")
        self.assertEqual(other.say("lots a"), "6 7 8:1")

    def test_say_stands_in_the_class(self):
        self.assertIn("say", vars(Desk))


if __name__ == "__main__":
    unittest.main()
