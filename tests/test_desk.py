"""Point 31: the desk, its rows that make and those that ask, what it refuses, two desks beside one another."""

import math
import random
import unittest

from common import LEVELS, LONGEST, OTHER_THINGS, SMALL_PLACES, added, long_places, nested, times
from fractionroads.closed import border, crossing, is_closed, mirrored
from fractionroads.deeds import deed
from fractionroads.desk import Desk
from fractionroads.ends import end, ends
from fractionroads.errors import NoDeed, NoLevel, NoName, NoPart, NotClosed, NoText, RoadError
from fractionroads.forms import told_by_forms
from fractionroads.levels import Level
from fractionroads.rooms import Room
from fractionroads.splits import closed_table, half_wide, new_rows, trace
from fractionroads.surface import genus
from fractionroads.texts import show_place, show_walk
from fractionroads.turns import turned

SOME_LEVELS = (1, 2, 6, 11, 12, 14, 22, 23, 30, 37, 42, 48)
# The words of each row, by what is due there: a name that is made, one that stands, numbers, places.
ROWS = {"level": "K", "walk": "NPP", "add": "NAA", "times": "NKA", "deed": "NKA", "turn": "NKA", "mirror": "NA",
        "drop": "A", "genus": "", "symbols": "", "ends": "", "end": "P", "same": "AA", "border": "A", "cross": "AA",
        "trace": "K", "forms": "K", "half": "K", "new": ""}
RIGHT = {"N": "fresh", "A": "a", "K": "1", "P": "1/2"}
NO_NAMES = ("", "A", "aB", "a1", "1", "abcdefghi", "a-b", "a_b", "1/2", "-1", "\u00e9", "a\n", "\ta", "a,b", "*")
NO_NUMBERS = ("", "a", "-", "+1", "01", "00", "-0", "--1", "1.0", "1/2", "1e2", "1_0", "1234567890", "-1234567890",
              "\u0661", "\u00b2", "1\n", "0x1", "1,0", "9" * 60)
NO_PLACES = ("", "1", "2/4", "0/0", "-1/0", "1/-2", "01/2", "1/02", "a/b", "1/2/3", "-0/1", "1/2\n",
             "1" + "0" * 30 + "/1")


def bottoms(n):
    """Two bottoms of places that are at the end of (0, 1)."""
    return [k for k in range(2, 60) if math.gcd(k, n) == 1][:2]


def desk_at(n):
    """A desk at a level, with three names: a and b for closed rows, c for one that is not, but at level 1."""
    desk = Desk()
    one, other = bottoms(n)
    for row in (f"level {n}", f"walk a 0/1 7/5 1/{one}", f"walk b 0/1 1/{other}", "walk c 0/1 1/0"):
        assert desk.say(row) == "ok"
    return desk


def refused(desk, row):
    """The class of the refusal, None where nothing is refused."""
    try:
        desk.say(row)
    except RoadError as error:
        return error.__class__
    return None


def state(desk, names="abcdefgh"):
    """All that a desk can be asked of its level and names, as texts."""
    told = [desk.say(row) for row in ("genus", "symbols", "ends")]
    for name in names:
        try:
            told.append(desk.say(f"border {name}"))
            told += [desk.say(f"same {name} {other}") for other in names if refused(desk, f"border {other}") is None]
        except NoName:
            told.append("none")
    return told


class Shadow:
    """A desk's rows, kept by the functions that the points tell."""

    def __init__(self, n):
        self.room = Room(Level(n))
        self.rows = {}

    def row_of(self, walk):
        return self.room.road_row(walk[0], walk[-1])


class TestExamples(unittest.TestCase):
    def test_a_session(self):
        desk = Desk()
        for row, answer in (
                ("genus", "0"), ("symbols", "1"), ("ends", "1,0"), ("new", "0"), ("half 7", "1"), ("trace 20", "0"),
                ("forms 12", "0"), ("end -5/3", "1,0"), ("walk a 0/1 1/0", "ok"), ("border a", "0"), ("cross a a", "0"),
                ("level 11", "ok"), ("genus", "1"), ("symbols", "12"), ("ends", "1,0 11,0"), ("end 3/22", "11,0"),
                ("end 22/3", "1,0"), ("end 1/0", "11,0"), ("walk a 0/1 1/2", "ok"), ("walk b 0/1 1/0", "ok"),
                ("border a", "0 0"), ("border b", "-1 1"), ("deed c 2 a", "ok"), ("times d -2 a", "ok"),
                ("same c d", "yes"), ("same a d", "no"), ("cross a c", "0"), ("half 2", "2 1"), ("trace 2", "-4"),
                ("forms 2", "-2"), ("new", "2"), ("turn e 11 a", "ok"), ("times f -1 a", "ok"), ("same e f", "yes"),
                ("add g e a", "ok"), ("times h 0 b", "ok"), ("same g h", "yes"), ("border h", "0 0"),
                ("mirror a a", "ok"), ("walk i 0/1 -1/2", "ok"), ("same a i", "yes"), ("drop a", "ok"),
                ("level 36", "ok"), ("ends", "1,0 2,1 3,1 3,2 4,0 6,1 6,5 9,0 12,1 12,2 18,1 36,0"),
                ("end 5/12", "12,2"), ("half 5", "0 1"), ("new", "2"), ("level 22", "ok"), ("half 3", "1 2 1"),
                ("new", "0"), ("trace 3", "-4"), ("level 37", "ok"), ("half 2", "0 2 1")):
            told = desk.say(row)
            self.assertIs(type(told), str)
            self.assertEqual(told, answer, row)


class TestAsking(unittest.TestCase):
    def test_every_level(self):
        for n in LEVELS:
            desk = desk_at(n)
            room = Room(Level(n))
            level = room.level()
            self.assertEqual(desk.say("genus"), str(genus(level)))
            self.assertEqual(desk.say("symbols"), str(len(level.symbols())))
            self.assertEqual(desk.say("ends"), " ".join(f"{d},{r}" for d, r in ends(level)))
            self.assertEqual(desk.say("new"), str(len(new_rows(room))))
            for spot in SMALL_PLACES[::3] + long_places()[::4]:
                d, r = end(level, spot)
                self.assertEqual(desk.say(f"end {show_place(spot)}"), f"{d},{r}")
            for m in (1, 2, 3, 7, 12, 20):
                self.assertEqual(desk.say(f"trace {m}"), str(trace(closed_table(room, m))))
                self.assertEqual(desk.say(f"half {m}"), " ".join(map(str, half_wide(room, m))))
                if math.gcd(m, n) == 1:
                    self.assertEqual(desk.say(f"forms {m}"), str(told_by_forms(level, m)))
                else:
                    self.assertIs(refused(desk, f"forms {m}"), NoPart)

    def test_borders_and_crossings(self):
        for n in LEVELS:
            desk = desk_at(n)
            room = Room(Level(n))
            one, other = bottoms(n)
            rows = {"a": room.road_row((0, 1), (1, one)), "b": room.road_row((0, 1), (1, other)),
                    "c": room.road_row((0, 1), (1, 0))}
            for name, row in rows.items():
                self.assertEqual(desk.say(f"border {name}"), " ".join(map(str, border(room, row))))
                for other, other_row in rows.items():
                    self.assertEqual(desk.say(f"same {name} {other}"), "yes" if row == other_row else "no")
                    if is_closed(room, row) and is_closed(room, other_row):
                        self.assertEqual(desk.say(f"cross {name} {other}"), str(crossing(room, row, other_row)))
                    else:
                        self.assertIs(refused(desk, f"cross {name} {other}"), NotClosed)


class TestMaking(unittest.TestCase):
    def test_twenty_rows_by_chance(self):
        """What a desk tells of texts is what the functions tell: each name's row, by borders and sameness."""
        for n in SOME_LEVELS:
            for seed in range(4):
                self.one_session(n, random.Random(100 * n + seed))

    def one_session(self, n, chance):
        desk, shadow = Desk(), Shadow(n)
        self.assertEqual(desk.say(f"level {n}"), "ok")
        spots = SMALL_PLACES + long_places()
        parts = [q for q in range(1, n + 1) if n % q == 0 and math.gcd(q, n // q) == 1]
        for step in range(20):
            name = chance.choice(("a", "b", "walk", "abcdefgh", "ok"))
            word = chance.choice(("walk", "add", "times", "deed", "turn", "mirror")) if shadow.rows else "walk"
            old, other = [chance.choice(sorted(shadow.rows or ["a"])) for each in (0, 1)]
            if word == "walk":
                walk = [chance.choice(spots) for each in range(chance.randrange(2, 13))]
                told, row = f"walk {name} {show_walk(walk)}", shadow.row_of(walk)
            elif word == "add":
                told, row = f"add {name} {old} {other}", added(shadow.rows[old], shadow.rows[other])
            elif word == "mirror":
                told, row = f"mirror {name} {old}", mirrored(shadow.room, shadow.rows[old])
            else:
                k = chance.choice({"times": (0, 1, -1, 999999999, -999999999, 12), "deed": (1, 2, 3, 20),
                                   "turn": parts}[word])
                told = f"{word} {name} {k} {old}"
                makes = {"times": lambda room, many, row: times(many, row), "deed": deed, "turn": turned}
                row = makes[word](shadow.room, k, shadow.rows[old])
            self.assertEqual(desk.say(told), "ok")
            shadow.rows[name] = row
            self.compare(desk, shadow)

    def compare(self, desk, shadow):
        for name, row in shadow.rows.items():
            self.assertEqual(desk.say(f"border {name}"), " ".join(map(str, border(shadow.room, row))))
            for other, other_row in shadow.rows.items():
                self.assertEqual(desk.say(f"same {name} {other}"), "yes" if row == other_row else "no")

    def test_a_name_that_stood(self):
        desk = desk_at(11)
        self.assertEqual(desk.say("walk a 0/1 1/0"), "ok")
        self.assertEqual(desk.say("same a c"), "yes")
        self.assertEqual(desk.say("add a a a"), "ok")
        self.assertEqual(desk.say("border a"), "-2 2")
        self.assertEqual(desk.say("border c"), "-1 1")

    def test_names(self):
        desk = Desk()
        for name in ("a", "z", "abcdefgh", "level", "walk", "drop", "new", "ok", "yes", "zzzzzzzz"):
            self.assertEqual(desk.say(f"walk {name} 0/1 1/0"), "ok")
            self.assertEqual(desk.say(f"border {name}"), "0")

    def test_only_the_first_place_and_the_last_one_count(self):
        for n in SOME_LEVELS:
            desk = desk_at(n)
            desk.say("walk d 0/1 7/5 -3/11 1/0 22/7 1/3")
            desk.say("walk e 0/1 1/3")
            self.assertEqual(desk.say("same d e"), "yes")

    def test_drop(self):
        desk = desk_at(11)
        self.assertEqual(desk.say("drop a"), "ok")
        self.assertIs(refused(desk, "border a"), NoName)
        self.assertIs(refused(desk, "drop a"), NoName)
        self.assertEqual(desk.say("border b"), "0 0")
        self.assertEqual(desk.say("walk a 0/1 1/0"), "ok")
        self.assertEqual(desk.say("border a"), "-1 1")

    def test_a_level_has_no_names_at_first(self):
        for n in (11, 12, 1):
            desk = desk_at(11)
            self.assertEqual(desk.say(f"level {n}"), "ok")
            for name in "abc":
                self.assertIs(refused(desk, f"border {name}"), NoName)
            self.assertEqual(desk.say("symbols"), str(len(Level(n).symbols())))

    def test_numbers_that_grow(self):
        desk = desk_at(11)
        for step in range(17):
            desk.say("times c 999999999 c")
        self.assertEqual(desk.say("border c"), f"-{999999999 ** 17} {999999999 ** 17}")


class TestRefusals(unittest.TestCase):
    def check(self, desk, row, kind):
        """A row is refused, by this class itself, and the desk is as it was."""
        before = state(desk)
        self.assertIs(refused(desk, row), kind, repr(row)[:80])
        self.assertEqual(state(desk), before)

    def words(self, first, **other):
        """The words of a row behind its first one, right ones but for those told by their place."""
        told = [RIGHT[due] for due in ROWS[first]]
        for at, word in other.items():
            told[int(at[1:])] = word
        return " ".join([first, *told])

    def test_right_rows_are_not_refused(self):
        for first in ROWS:
            self.assertIsNone(refused(desk_at(11), self.words(first)), first)

    def test_no_text(self):
        desk = desk_at(11)
        for thing in (0, 1, -1, LONGEST, ["genus"], ("genus",), [["genus"]], nested(5, "genus"), *OTHER_THINGS):
            self.check(desk, thing, NoText)

    def test_other_first_words(self):
        desk = desk_at(11)
        for row in ("", " ", "Genus", "GENUS", "genera", "a", "1", "1/2", "say", "help", "name", "ok", "levels 11",
                    "exit"):
            self.check(desk, row, NoText)
            self.check(desk, f"{row} a", NoText)

    def test_number_of_words(self):
        desk = desk_at(11)
        for first, due in ROWS.items():
            right = self.words(first).split(" ")
            for many in range(1, len(right)):
                self.check(desk, " ".join(right[:many]), NoText)
            for more in ("a", "1", "1/2", ""):
                if first != "walk" or more != "1/2":
                    self.check(desk, " ".join([*right, more]), NoText)
        for many in (0, 1, 13, 14):
            self.check(desk, " ".join(["walk", "d", *["1/2"] * many]), NoText)

    def test_blanks(self):
        desk = desk_at(11)
        for first in ROWS:
            right = self.words(first)
            for row in (f" {right}", f"{right} ", f"  {right}", f"{right}\n", f"\n{right}", f"{right}\t"):
                self.check(desk, row, NoText)
            if " " in right:
                for row in (right.replace(" ", "  ", 1), right.replace(" ", "\t", 1), right.replace(" ", "\n", 1),
                            "  ".join(right.rsplit(" ", 1))):
                    self.check(desk, row, NoText)

    def test_words_of_another_kind(self):
        desk = desk_at(11)
        for first, due in ROWS.items():
            for at, kind in enumerate(due):
                wrong = {"N": NO_NAMES, "A": NO_NAMES, "K": NO_NUMBERS, "P": NO_PLACES}[kind]
                for word in wrong:
                    self.check(desk, self.words(first, **{f"w{at}": word}), NoText)

    def test_no_text_ahead_of_all_others(self):
        desk = desk_at(12)
        for row in ("add d z A", "add d A z", "add D z z", "times d 01 z", "times D 1 z", "deed d 1.0 z", "deed d 99 Z",
                    "deed D 99 a", "deed D 99 z", "turn d x z", "turn D 5 z", "turn d 5 Z", "mirror D z", "same z Z",
                    "same Z z", "cross c C", "cross C c", "cross z Z", "level 049", "level 1234567890", "trace 021",
                    "forms 1234567890", "half -0", "walk D 0/1 1/0", "walk d 0/1 2/4", "drop Z", "border Z"):
            self.check(desk, row, NoText)

    def test_no_name(self):
        desk = desk_at(12)
        for row in ("add d z a", "add d a z", "add d z z", "add z z a", "times d 5 z", "times z 5 z", "mirror d z",
                    "mirror z z", "drop z", "drop fresh", "same z a", "same a z", "same z z", "border z", "cross z a",
                    "cross a z", "border walk", "drop abcdefgh"):
            self.check(desk, row, NoName)

    def test_no_name_ahead_of_what_the_points_tell(self):
        desk = desk_at(12)
        for row in ("deed d 0 z", "deed d 21 z", "deed d -1 z", "turn d 5 z", "turn d 0 z", "turn d 2 z", "cross c z",
                    "cross z c"):
            self.check(desk, row, NoName)

    def test_no_level(self):
        desk = desk_at(11)
        for number in (0, -1, 49, 50, 100, -11, 999999999, -999999999):
            self.check(desk, f"level {number}", NoLevel)

    def test_no_deed(self):
        for n in (1, 11, 12):
            desk = desk_at(n)
            for m in (0, -1, 21, 22, 24, 999999999, -999999999):
                for row in (f"deed d {m} a", f"deed a {m} c", f"trace {m}", f"half {m}", f"forms {m}"):
                    self.check(desk, row, NoDeed)

    def test_no_part(self):
        desk = desk_at(12)
        for q in (0, -1, -3, 2, 5, 6, 13, 24, 999999999, -12):
            self.check(desk, f"turn d {q} a", NoPart)
            self.check(desk, f"turn a {q} c", NoPart)
        for m in (2, 3, 4, 6, 8, 9, 10, 12, 14, 15, 16, 18, 20):
            self.check(desk, f"forms {m}", NoPart)

    def test_not_closed(self):
        for n in (2, 11, 12, 37):
            desk = desk_at(n)
            for row in ("cross a c", "cross c a", "cross c c", "cross b c"):
                self.check(desk, row, NotClosed)

    def test_a_name_of_a_refused_row_is_not_made(self):
        desk = desk_at(12)
        for row in ("add d a z", "deed d 21 a", "turn d 5 a", "walk d 0/1 2/4", "times d 01 a", "mirror d z"):
            refused(desk, row)
            self.assertIs(refused(desk, "border d"), NoName)
        before = state(desk)
        for row in ("add a a z", "deed a 21 a", "turn a 5 a", "walk a 0/1 2/4", "times a 01 a", "mirror a z",
                    "level 0"):
            refused(desk, row)
            self.assertEqual(state(desk), before)


class TestTwoDesks(unittest.TestCase):
    def test_they_know_nothing_of_one_another(self):
        one, other = Desk(), Desk()
        one.say("level 11")
        self.assertEqual(other.say("symbols"), "1")
        other.say("level 11")
        one.say("walk a 0/1 1/0")
        self.assertIs(refused(other, "border a"), NoName)
        other.say("walk a 1/0 0/1")
        self.assertEqual((one.say("border a"), other.say("border a")), ("-1 1", "1 -1"))
        one.say("drop a")
        self.assertEqual(other.say("border a"), "1 -1")
        one.say("level 2")
        self.assertEqual((one.say("symbols"), other.say("symbols")), ("3", "12"))
        self.assertEqual(Desk().say("symbols"), "1")

    def test_a_desk_as_it_was_behind_another_ones_rows(self):
        one, other = desk_at(22), desk_at(22)
        before = state(other)
        for row in ("add a a c", "times b 7 c", "mirror c c", "deed d 3 a", "turn e 11 c", "level 5", "walk a 0/1 1/0",
                    "drop a"):
            one.say(row)
            self.assertEqual(state(other), before)

    def test_refusals_in_between(self):
        one, other = desk_at(11), desk_at(11)
        for row in ("deed d 21 a", "level 49", "turn a 3 c", "cross a c", "drop z", "x"):
            refused(one, row)
            self.assertEqual(state(one), state(other))


if __name__ == "__main__":
    unittest.main()
