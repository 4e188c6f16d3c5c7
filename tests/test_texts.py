"""Point 30: places and walks written and read; point 2 of what is told."""

import math
import re
import unittest

from common import LONGEST, OTHER_THINGS, PRIME, SMALL_PLACES, long_places, nested, refusal, spoil
from fractionroads.errors import NoText
from fractionroads.texts import read_place, read_walk, show_place, show_walk

PLACES = SMALL_PLACES + long_places() + [(LONGEST, 1), (-LONGEST, 1), (1, LONGEST), (0, 1), (PRIME, 48)]
NUMBER = r"(0|-?[1-9][0-9]{0,29})"
SIGNS = "0123456789-+/ .,_aZ\t\n\u0660\u00b2\u00bd\u2212\u00a0"
NO_TEXTS = (0, 1, LONGEST, (1, 2), [1, 2], [(1, 2)], ["1/2"], ("1/2", "1/0"), ["1/2", "1/0"], nested(5, "1/2"),
            *[thing for thing in OTHER_THINGS if not isinstance(thing, str)])


def place_by_words(text):
    """The place that a text writes, None where it writes none."""
    found = re.fullmatch(f"{NUMBER}/{NUMBER}", text)
    if found is None:
        return None
    top, bottom = int(found[1]), int(found[2])
    if (top, bottom) == (1, 0) or (bottom >= 1 and math.gcd(top, bottom) == 1):
        return (top, bottom)
    return None


def walk_by_words(text):
    told = [place_by_words(word) for word in text.split(" ")]
    return told if 2 <= len(told) <= 12 and None not in told else None


def with_one_sign_changed(text):
    told = []
    for at in range(len(text) + 1):
        told += [text[:at] + sign + text[at:] for sign in SIGNS]
        told += [text[:at] + sign + text[at + 1:] for sign in SIGNS]
        told.append(text[:at] + text[at + 1:])
    return told


def compare(test, read, text, told):
    """What is read of a text is what was told by words, or it is refused where that is None."""
    if told is None:
        test.assertIs(refusal(read, text), NoText, text)
    else:
        test.assertEqual(read(text), told)


class TestPlaces(unittest.TestCase):
    def test_examples(self):
        for spot, text in (((1, 0), "1/0"), ((0, 1), "0/1"), ((-3, 2), "-3/2"), ((5, 1), "5/1"), ((10, 101), "10/101"),
                           ((LONGEST, 1), "9" * 30 + "/1"), ((-1, LONGEST), "-1/" + "9" * 30)):
            self.assertEqual(show_place(spot), text)
            self.assertEqual(read_place(text), spot)

    def test_written_and_read(self):
        for spot in PLACES:
            text = show_place(spot)
            self.assertIs(type(text), str)
            told = read_place(text)
            self.assertEqual(told, spot)
            self.assertIs(type(told), tuple)
            self.assertEqual([type(number) for number in told], [int, int])

    def test_longer_places_are_written(self):
        self.assertEqual(show_place((10 ** 40, 10 ** 40 + 1)), "1" + "0" * 40 + "/1" + "0" * 39 + "1")
        self.assertEqual(len(show_place((3 ** 4000, 2 ** 6000))), 1909 + 1 + 1807)

    def test_no_place(self):
        for text in ("", "1", "/", "1/", "/1", "1//2", "1/2/3", "2/4", "0/0", "0/2", "2/0", "-1/0", "1/-2", "-1/-2",
                     "-0/1", "+1/2", "01/2", "1/02", "00/1", "1/00", " 1/2", "1/2 ", "1 /2", "1/ 2", "1/2\n", "\n1/2",
                     "--1/2", "-/1", "1/-", "1.0/2", "1e3/7", "1_0/3", "0x1/2", "\u0661/2", "1/\u0662", "\u00b2/1",
                     "one/two", "(1, 2)", "1:2", "1/2 1/3", "1" + "0" * 30 + "/1", "1/1" + "0" * 30,
                     "-1" + "0" * 30 + "/1",
                     "0" * 30 + "1/2", "1" * 5000 + "/1", "1/" + "7" * 5000, "/" * 3000, "-" * 40 + "1/1"):
            self.assertIs(refusal(read_place, text), NoText, text[:60])

    def test_every_short_text(self):
        signs = "0126-/ "
        for length in range(6):
            for at in range(len(signs) ** length):
                text = ""
                for each in range(length):
                    at, rest = divmod(at, len(signs))
                    text += signs[rest]
                compare(self, read_place, text, place_by_words(text))

    def test_one_sign_changed(self):
        for text in ("1/0", "0/1", "-3/2", "17/12", "-10/7", "9" * 30 + "/" + "9" * 29 + "8", "-1" + "0" * 29 + "/3"):
            for other in with_one_sign_changed(text):
                compare(self, read_place, other, place_by_words(other))

    def test_no_texts(self):
        for thing in NO_TEXTS:
            self.assertIs(refusal(read_place, thing), NoText, repr(thing)[:60])
            self.assertIs(refusal(read_walk, thing), NoText, repr(thing)[:60])


class TestWalks(unittest.TestCase):
    def test_examples(self):
        self.assertEqual(show_walk([(1, 0), (0, 1)]), "1/0 0/1")
        self.assertEqual(read_walk("1/0 0/1"), [(1, 0), (0, 1)])
        self.assertEqual(read_walk("-1/2 -1/2 7/3"), [(-1, 2), (-1, 2), (7, 3)])

    def test_written_and_read(self):
        for many in range(2, 13):
            for first in range(0, len(PLACES) - many, 5):
                walk = PLACES[first:first + many]
                text = show_walk(walk)
                self.assertIs(type(text), str)
                self.assertEqual(text, " ".join(show_place(spot) for spot in walk))
                told = read_walk(text)
                self.assertEqual(told, walk)
                self.assertIs(type(told), list)
                self.assertEqual({type(spot) for spot in told}, {tuple})

    def test_how_many_places(self):
        for many in range(1, 30):
            told = refusal(read_walk, " ".join(["1/2"] * many))
            self.assertIs(told, None if 2 <= many <= 12 else NoText)
        for text in ("", " ", "1/0", "1/0 ", " 1/0", "  ", " " * 11):
            self.assertIs(refusal(read_walk, text), NoText)

    def test_blanks_too_many(self):
        for text in ("1/0  0/1", " 1/0 0/1", "1/0 0/1 ", "1/0\t0/1", "1/0\n0/1", "1/0 0/1\n", "1/0, 0/1", "1/0 0 /1",
                     "1/0 2/4", "1/0 0/0", "1/0 0/1 01/2", "1/0 1" + "0" * 30 + "/1"):
            self.assertIs(refusal(read_walk, text), NoText, text)

    def test_one_sign_changed(self):
        for text in ("1/0 0/1", "-3/2 17/12 1/1", "5/7 " + "9" * 30 + "/1"):
            for other in with_one_sign_changed(text):
                compare(self, read_walk, other, walk_by_words(other))


class TestPointTwo(unittest.TestCase):
    def test_told_lists(self):
        earlier = read_walk("1/0 0/1 1/2")
        spoil(read_walk("1/0 0/1 1/2"))
        self.assertEqual(read_walk("1/0 0/1 1/2"), [(1, 0), (0, 1), (1, 2)])
        self.assertEqual(earlier, [(1, 0), (0, 1), (1, 2)])

    def test_what_is_handed_in_stays(self):
        walk = [(1, 0), (0, 1), (-5, 3)]
        text = show_walk(walk)
        self.assertEqual(walk, [(1, 0), (0, 1), (-5, 3)])
        walk.append((1, 1))
        self.assertEqual(text, "1/0 0/1 -5/3")
        thing = ["1/2", ["1/3"]]
        refusal(read_place, thing)
        refusal(read_walk, thing)
        self.assertEqual(thing, ["1/2", ["1/3"]])


if __name__ == "__main__":
    unittest.main()
