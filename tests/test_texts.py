import copy
import itertools
import random
import unittest

from fewstand.errors import LotError, NoText
from fewstand.lots import look_at_family
from fewstand.texts import read_family, show_family
from tests.kinds import no_whole_numbers, some_family, things_of_other_kinds

FAMILY = [((0, 3, 7), 12), ((1, 2, 9), -4)]
TEXT = "0 3 7:12; 1 2 9:-4"


class Show(unittest.TestCase):
    def test_by_hand(self):
        self.assertEqual(show_family(FAMILY), TEXT)
        self.assertEqual(show_family(FAMILY[::-1]), "1 2 9:-4; 0 3 7:12")
        self.assertEqual(show_family([]), "")
        self.assertEqual(show_family([((), 5)]), "-:5")
        self.assertEqual(show_family([((), -5)]), "-:-5")
        self.assertEqual(show_family([((29,), 0)]), "29:0")
        self.assertEqual(show_family([((0, 10), 100), ((1, 20), -100), ((2, 3), 0)]), "0 10:100; 1 20:-100; 2 3:0")
        self.assertIsInstance(show_family([]), str)

    def test_great_worths(self):
        for worth in [10 ** 19, 10 ** 20 - 1, 10 ** 20, 10 ** 59, -(10 ** 59)]:
            self.assertEqual(show_family([((0,), worth)]), "0:" + str(worth))

    def test_what_is_handed_in_stays(self):
        family = copy.deepcopy(FAMILY)
        show_family(family)
        self.assertEqual(family, FAMILY)


class Read(unittest.TestCase):
    def refused(self, many, size, text):
        with self.assertRaises(NoText) as caught:
            read_family(many, size, text)
        self.assertIsInstance(caught.exception, LotError)

    def test_by_hand(self):
        self.assertEqual(read_family(10, 3, TEXT), FAMILY)
        self.assertEqual(read_family(10, 3, "1 2 9:-4; 0 3 7:12"), FAMILY[::-1])
        self.assertEqual(read_family(10, 3, ""), [])
        self.assertEqual(read_family(1, 0, ""), [])
        self.assertEqual(read_family(4, 0, "-:5"), [((), 5)])
        self.assertEqual(read_family(4, 0, "-:-5"), [((), -5)])
        self.assertEqual(read_family(30, 1, "29:0"), [((29,), 0)])
        told = read_family(10, 3, TEXT)
        self.assertIsInstance(told, list)
        self.assertIsInstance(told[0], tuple)
        self.assertIsInstance(told[0][0], tuple)
        for one in told[0][0] + (told[0][1],):
            self.assertIs(type(one), int)

    def test_there_and_back(self):
        chance = random.Random(161)
        for turn in range(200):
            size = chance.randint(0, 8)
            many = chance.randint(max(1, size), 30)
            lots = [tuple(sorted(chance.sample(range(many), size))) for each in range(chance.randint(0, 20))]
            worths = [0, 9, -9, 10, -10, 10 ** 19, 10 ** 20 - 1, 1 - 10 ** 20]
            family = [(lot, chance.choice(worths)) for lot in dict.fromkeys(lots)]
            text = show_family(family)
            self.assertEqual(read_family(many, size, text), family)
            self.assertEqual(show_family(read_family(many, size, text)), text)
            look_at_family(many, size, read_family(many, size, text))

    def test_all_short_texts(self):
        """Whatever short text there is: what is read is written so again."""
        for size in [0, 1, 2]:
            written = {}
            for thing in [family for lots in [itertools.combinations(range(2), size)] for lot in lots
                          for family in [[(lot, worth)] for worth in range(-9, 20)]]:
                written[show_family(thing)] = thing
            written[""] = []
            for length in range(6 if size == 2 else 5):
                for signs in itertools.product("01- :;", repeat=length):
                    text = "".join(signs)
                    if text in written:
                        self.assertEqual(read_family(2, size, text), written[text])
                    elif ":" not in text or text.endswith(":"):
                        self.refused(2, size, text)
                    else:
                        try:
                            told = read_family(2, size, text)
                        except NoText:
                            continue
                        self.assertEqual(show_family(told), text)

    def test_worths(self):
        for text, worth in [("0", 0), ("7", 7), ("-7", -7), ("10", 10), ("9" * 20, 10 ** 20 - 1), ("-" + "9" * 20, 1 - 10 ** 20),
                            ("1" + "0" * 19, 10 ** 19)]:
            self.assertEqual(read_family(3, 1, "2:" + text), [((2,), worth)])
        for text in ["", "-", "-0", "00", "01", "007", "-01", "+1", "+0", "--1", " 1", "1 ", "1.0", "1_0", "0x1", "1e2", "1,0", "a",
                     "1" * 21, "-" + "1" * 21, "0" * 21, "1" * 60, "None", "True", ":1", "1:", "1:1", "1;", ";1"]:
            with self.subTest(text):
                self.refused(3, 1, "2:" + text)
                self.refused(3, 1, "0:1; 2:" + text)
                self.refused(3, 1, "2:" + text + "; 0:1")

    def test_things(self):
        for text in ["00", "02", "-1", "+1", "3", "", " 1", "1 ", " ", "-", "--", "0 1", "1,2", "a", "-0", "1.0", "0_1", "1" * 21,
                     "10000000000000000000000000"]:
            with self.subTest(text):
                self.refused(3, 1, text + ":5")
                self.refused(3, 1, "0:1; " + text + ":5")
        for text in ["1 0", "0 0", "1 1", "0 3", "0", "0 1 2", "0  1", " 0 1", "0 1 ", "0, 1", "0,1", "-", "", "- -", "0 -", "0 01", "00 1",
                     "0\t1", "0\n1"]:
            with self.subTest(text):
                self.refused(3, 2, text + ":5")
        for text in ["", "0", " ", "- ", " -", "--", "-1", "0 1", "- -"]:
            self.refused(3, 0, text + ":5")

    def test_blanks_and_signs_between(self):
        good = "0 1:5; 1 2:-6; 0 2:7"
        self.assertEqual(read_family(3, 2, good), [((0, 1), 5), ((1, 2), -6), ((0, 2), 7)])
        for text in ["0 1:5;1 2:-6", "0 1:5 1 2:-6", "0 1:5;  1 2:-6", "0 1:5 ; 1 2:-6", "0 1:5, 1 2:-6", "0 1:5; 1 2:-6;",
                     "0 1:5; 1 2:-6; ", "; 0 1:5", " 0 1:5", "0 1:5 ", "0 1 :5", "0 1: 5", "0 1;5", "0 1=5", "0 1 5", "0 1:5; ; 1 2:-6",
                     "0 1:5\n1 2:-6", "0 1:5;\n1 2:-6", "0 1:5\n", "\n0 1:5", "0 1:5;\t1 2:-6", "\t", "\n", " ", "-", ";", ":", "; ",
                     "0 1::5", "0 1:5:6", "[((0, 1), 5)]", "0 1:5. 1 2:-6", "0 1:5; 1 2", "0 1", "0 1:5|1 2:-6"]:
            with self.subTest(text):
                self.refused(3, 2, text)

    def test_signs_put_in_left_out_and_exchanged(self):
        good = "0 12:5; 1 20:-60"
        self.assertEqual(len(read_family(30, 2, good)), 2)
        for at in range(len(good) + 1):
            texts = [good[:at] + sign + good[at:] for sign in " ;:-,0129a\n\t+"]
            texts += [good[:at] + sign + good[at + 1:] for sign in " ;:-,0129a\n\t+"] + [good[:at] + good[at + 1:]]
            for text in texts:
                try:
                    told = read_family(30, 2, text)
                except NoText:
                    continue
                look_at_family(30, 2, told)
                self.assertEqual(show_family(told), text)

    def test_figures_of_elsewhere(self):
        for sign in ["\u0663", "\u00b2", "\u0967", "\uff11", "\u2460", "\u00bd", "\U0001d7d9", "\u4e00"]:
            with self.subTest(sign):
                self.refused(10, 1, sign + ":5")
                self.refused(10, 1, "1:" + sign)
                self.refused(10, 1, "1:1" + sign)
                self.refused(10, 1, "1:-" + sign)
        for sign in ["\u00a0", "\u2009", "\u3000", "\u2212", "\uff1a", "\u037e"]:
            self.refused(10, 2, f"0{sign}1:5")
            self.refused(10, 2, f"0 1:{sign}5")
            self.refused(10, 2, f"0 1{sign}5")
            self.refused(10, 2, f"0 1:5{sign}1 2:5")

    def test_lots_twice_not_rising_beyond_and_of_another_size(self):
        for text in ["0 1:5; 0 1:5", "0 1:5; 1 2:3; 0 1:6", "1 0:5", "0 1:5; 2 1:5", "0 4:5", "0 1:5; 3 4:5", "0:5", "0 1:5; 0:5",
                     "0 1 2:5", "0 1:5; 0 1 2:5", "-:5", "0 1:5; -:5"]:
            with self.subTest(text):
                self.refused(4, 2, text)
        self.refused(4, 0, "-:5; -:5")
        self.refused(4, 0, "-:5; -:6")
        self.refused(4, 1, TEXT)
        self.refused(9, 3, TEXT)
        self.assertEqual(read_family(10, 3, TEXT), FAMILY)

    def test_two_hundred_lots_and_one_more(self):
        lots = list(itertools.combinations(range(30), 2))
        family = [(lot, 1) for lot in lots[:201]]
        self.assertEqual(read_family(30, 2, show_family(family[:200])), family[:200])
        self.refused(30, 2, show_family(family))

    def test_what_is_no_text(self):
        for text in [thing for thing in things_of_other_kinds() + no_whole_numbers() if not isinstance(thing, str)] + [
                b"0 3 7:12", FAMILY, [TEXT], (TEXT,), [], {TEXT: 1}, bytearray(b"")]:
            with self.subTest(repr(text)):
                self.refused(10, 3, text)
                self.refused(10, 0, text)

    def test_told_anew(self):
        told = read_family(10, 3, TEXT)
        told.append(None)
        told[0] = 7
        self.assertEqual(read_family(10, 3, TEXT), FAMILY)
        none = read_family(10, 3, "")
        none.append(None)
        self.assertEqual(read_family(10, 3, ""), [])

    def test_some_families(self):
        chance = random.Random(162)
        for turn in range(30):
            family = some_family(chance, 12, 3, 60, 10 ** 6)
            self.assertEqual(read_family(12, 3, show_family(family)), family)


if __name__ == "__main__":
    unittest.main()
