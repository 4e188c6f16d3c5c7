"""Point 29: the checker lets by the papers that hold, of all four kinds, and nothing else."""

import copy
import random
import unittest

import reference
from common import (LEVELS, LONG, LONGEST, OTHER_THINGS, SMALL_PLACES, long_places, long_turnings, nested, random_load,
                    spoil)
from fractionroads.checker import holds
from fractionroads.deeds import roads_led
from fractionroads.ends import leading
from fractionroads.levels import Level
from fractionroads.papers import judged
from fractionroads.rooms import Room
from fractionroads.turnings import led

ROOMS = {n: Room(Level(n)) for n in LEVELS}
SPOTS = SMALL_PLACES[::7] + long_places()[::6]
# Things that may stand where another thing stood.
STRANGERS = (0, 1, -1, 2, 49, True, False, None, "", "half", "same", [], (), [0], (0,), (1, 0), [(1, 0, 1)], LONG,
             ((1, 0), (0, 1)))


def turned_papers(n):
    """Papers of places that turnings of the level lead to one another."""
    told = []
    for spot in SPOTS:
        for turning in [((1, 0), (0, 1)), ((-1, 0), (0, -1)), ((1, 5), (0, 1)), ((1, 0), (-3 * n, 1)),
                        ((1 + n, 1), (n, 1)), ((1, 0), (n * 10 ** 25, 1))]:
            told.append(("led", n, spot, led(turning, spot), turning))
    return told


def deed_papers(n, deeds):
    return [("deed", n, m, one, other, roads_led(ROOMS[n].level(), m, one, other))
            for m in deeds for one, other in zip(SPOTS, SPOTS[1:] + SPOTS[:1])]


def small_papers(n):
    """A few papers of the level, of all four kinds, each of few things."""
    room = ROOMS[n]
    told = [judged(room, [], []), judged(room, [(1, 0, 1)], []), judged(room, [(0, 1, 2), (1, 1, -1)], [(1, 0, -2)]),
            judged(room, [(1, 0, 5), (0, 1, 5)], [(1, 1, 1), (2, -1, 1), (1, -2, 1)]),
            judged(room, [(0, 1, 1)], [(1, 0, -1), (1, 2, 3)])]
    for x, (u, v) in enumerate(room.level().symbols()):
        if x in (reference.half_list(n)[x], reference.third_list(n)[x]):
            told.append(judged(room, [(u, v, 1)], []))
    told += [("led", n, (1, 2), led(((1, 0), (n, 1)), (1, 2)), ((1, 0), (n, 1))),
             ("led", n, (1, 0), (1, 0), ((-1, 3), (0, -1))),
             ("deed", n, 1, (1, 0), (1, 2), [((1, 0), (1, 2))]),
             ("deed", n, 3, (0, 1), (1, 0), roads_led(room.level(), 3, (0, 1), (1, 0))),
             ("deed", n, 2, (1, 3), (-1, 2), roads_led(room.level(), 2, (1, 3), (-1, 2)))]
    return told


def changed(thing, strangers):
    """The thing with one thing of it changed, in every place and way."""
    told = [stranger for stranger in strangers if type(stranger) is not type(thing) or stranger != thing]
    if type(thing) is int:
        told += [thing + 1, thing - 1, -thing, 2 * thing, thing + 10 ** 20]
    if type(thing) is str:
        told += [thing + " ", thing.upper(), thing[:-1]]
    if type(thing) in (list, tuple):
        kind = type(thing)
        told += [list(thing) if kind is tuple else tuple(thing), kind(thing[1:]), kind(thing[:-1]),
                 kind([*thing, *thing[-1:]]), kind([*thing, 0]), kind(reversed(thing)), kind([thing])]
        for at, inner in enumerate(thing):
            told += [kind([*thing[:at], other, *thing[at + 1:]]) for other in changed(inner, strangers)]
    return told


class TestPapersThatHold(unittest.TestCase):
    def test_led(self):
        for n in LEVELS:
            for paper in turned_papers(n):
                self.assertIs(holds(paper), True)
                self.assertTrue(reference.paper_holds(paper))

    def test_led_as_it_was_told(self):
        for n in (1, 6, 11, 36, 48):
            level = ROOMS[n].level()
            for spot in SPOTS:
                for turning in long_turnings()[::3]:
                    # A turning of the level of many figures: what is told may be handed in, whatever its size.
                    (a, b), (c, d) = turning
                    if c % n == 0:
                        self.assertIs(holds(("led", n, spot, led(turning, spot), turning)), True)
                other = led(((1 + n, 1), (n, 1)), spot)
                self.assertIs(holds(("led", n, spot, other, leading(level, spot, other))), True)

    def test_deeds(self):
        for n in LEVELS:
            for paper in deed_papers(n, range(1, 21)):
                self.assertIs(holds(paper), True)
            for paper in deed_papers(n, (1, 4, 6)):
                self.assertTrue(reference.paper_holds(paper))

    def test_roads_in_any_order(self):
        for n in (1, 2, 11, 30):
            for paper in deed_papers(n, (2, 6, 12)):
                roads = list(paper[5])
                for seed in range(3):
                    random.Random(seed).shuffle(roads)
                    self.assertIs(holds((*paper[:5], roads)), True)

    def test_judged_loads(self):
        for n in LEVELS:
            for many in (0, 1, 10, 100, 200):
                load = random_load(ROOMS[n].level(), many, many, 60)
                for other in (load[::-1], load[1:], [(1, 0, 1)]):
                    paper = judged(ROOMS[n], load, other)
                    self.assertIs(holds(paper), True)
                    word = "apart" if paper[0] == "same" else "same"
                    self.assertIs(holds((word, *paper[1:])), False)

    def test_small_ones(self):
        for n in LEVELS:
            for paper in small_papers(n):
                self.assertTrue(reference.paper_holds(paper))
                self.assertIs(holds(paper), True)


class TestPapersWithOneThingChanged(unittest.TestCase):
    def compare(self, papers, strangers):
        many = {True: 0, False: 0}
        for paper in papers:
            for other in changed(paper, strangers):
                told = holds(other)
                self.assertIs(told, reference.paper_holds(other), other)
                many[told] += 1
        return many

    def test_at_levels_of_few_symbols(self):
        for n in (1, 2, 3, 4, 5):
            many = self.compare(small_papers(n), STRANGERS)
            self.assertGreater(many[False], 1000)

    def test_at_levels_above_genus_0(self):
        for n in (11, 14, 37):
            many = self.compare(small_papers(n)[:5] + small_papers(n)[-5:], STRANGERS[::3])
            self.assertGreater(many[False], 1000)

    def test_papers_of_other_levels(self):
        for n in (1, 2, 6, 11, 12, 22):
            for paper in small_papers(n):
                for other in (*LEVELS, 0, -n, 49, True, None, "11", [n], (n,), LONG):
                    told = (paper[0], other, *paper[2:])
                    self.assertIs(holds(told), reference.paper_holds(told), told)


class TestSums(unittest.TestCase):
    def test_taken_in_parts(self):
        one, other = [(1, 0, 1), (0, 1, 1)], []
        for sums in ([("half", 1, 0, (1, 1))], [("half", 0, 1, (1, 1))], [("half", 0, -1, (1, 1))],
                     [("half", 1, 0, (1, 3)), ("half", 0, 1, (2, 3))],
                     [("half", 1, 0, (1, 2)), ("half", 1, 0, (1, 3)), ("half", 12, 11, (1, 6))],
                     [("half", 1, 0, (LONG, 2)), ("half", 1, 0, (2 - LONG, 2))],
                     [("half", 1, 0, (1, 1)), ("third", 1, 2, (1, LONG)), ("third", 1, 2, (-1, LONG))],
                     [("half", 1, 0, (1, 1)), ("third", 1, 2, (0, 1))]):
            self.assertIs(holds(("same", 11, one, other, sums)), True, sums)
            self.assertTrue(reference.paper_holds(("same", 11, one, other, sums)))
        for sums in ([], [("half", 1, 0, (2, 1))], [("half", 1, 0, (2, 2))], [("half", 1, 0, (-1, -1))],
                     [("third", 1, 0, (1, 1))], [("half", 1, 0, 1)], [("half", 1, 0, [1, 1])], [["half", 1, 0, (1, 1)]],
                     [("half", 1, 0, (True, 1))], [("half", True, 0, (1, 1))], [("half", 1, False, (1, 1))],
                     [("half", 1, 0, (1, True))], (("half", 1, 0, (1, 1)),), [("Half", 1, 0, (1, 1))],
                     [("half", 1, 0, (1, 1)), ("third", 1, 2, (0, 2))], [("half", 11, 22, (1, 1))],
                     [("half", 1, 0, (1, 1)), ("half", 0, 0, (0, 1))], [("half", 1, 0, (1, 0))],
                     [("half", 1, 0, (1, 0)), ("half", 1, 0, (-1, 0))],
                     [("half", 1, 0, (1, 0)), ("half", 0, 1, (-1, 0))],
                     [("half", 1, 0, (1, 1)), ("half", 1, 2, (1, LONG))], [("half", 1, 0, (LONG - 1, LONG))]):
            self.assertIs(holds(("same", 11, one, other, sums)), False, sums)

    def test_folded_ones_and_cones_are_taken_twice_and_thrice(self):
        self.assertIs(holds(("same", 1, [(0, 0, 1)], [], [("half", 0, 0, (1, 2))])), True)
        self.assertIs(holds(("same", 1, [(0, 0, 1)], [], [("third", 5, 7, (1, 3))])), True)
        self.assertIs(holds(("same", 1, [(0, 0, 1)], [], [("half", 0, 0, (1, 1))])), False)
        self.assertIs(holds(("same", 1, [(0, 0, 1)], [], [("half", 0, 0, (2, 1)), ("third", 0, 0, (-1, 1))])), True)
        self.assertIs(holds(("same", 2, [(1, 1, 1)], [], [("half", 1, 1, (1, 2))])), True)
        self.assertIs(holds(("same", 3, [(1, 1, 3)], [], [("third", 1, 1, (1, 1))])), True)

    def test_many_bottoms_of_sixty_figures(self):
        sums = [("half", 1, 0, (1, 10 ** 59 + at)) for at in range(100)]
        sums += [("half", 0, 1, (-1, 10 ** 59 + at)) for at in range(100)]
        self.assertIs(holds(("same", 11, [], [], sums)), True)
        self.assertIs(holds(("same", 11, [], [], sums[:-1])), False)


class TestWeights(unittest.TestCase):
    def test_weights_that_no_room_tells(self):
        paper = judged(ROOMS[37], [(0, 1, 1)], [])
        self.assertEqual(paper[0], "apart")
        for factor in (1, -1, 5, LONG):
            self.assertIs(holds((*paper[:4], [factor * weight for weight in paper[4]])), True)
        self.assertIs(holds((*paper[:4], [0 * weight for weight in paper[4]])), False)
        self.assertIs(holds((*paper[:4], paper[4] + [0])), False)
        self.assertIs(holds((*paper[:4], paper[4][:-1])), False)
        self.assertIs(holds((*paper[:4], [bool(weight) for weight in paper[4]])), False)

    def test_one_relation_that_does_not_come_to_nought(self):
        """Weights of halves alone, or of thirds alone, part what is the same."""
        for n in (2, 5, 11, 12):
            half, third = reference.half_list(n), reference.third_list(n)
            many = len(half)
            for x in range(many):
                by_halves, by_thirds = [0] * many, [0] * many
                if half[x] != x:
                    by_halves[x], by_halves[half[x]] = 1, -1
                if third[x] != x:
                    by_thirds[x], by_thirds[third[x]] = 1, -1
                symbol = (*ROOMS[n].level().symbols()[x], 1)
                for weights in (by_halves, by_thirds):
                    paper = ("apart", n, [symbol], [], weights)
                    self.assertIs(holds(paper), reference.paper_holds(paper))


class TestLoads(unittest.TestCase):
    def test_how_many_tuples(self):
        for many, told in ((0, True), (1, True), (200, True), (201, False), (400, False)):
            load = [(1, 0, 1)] * many
            self.assertIs(holds(("same", 11, load, list(load), [])), told)
        self.assertIs(holds(("same", 11, [(1, 0, 1)] * 201, [(1, 0, 201)], [])), False)

    def test_symbols_have_to_be_symbols(self):
        for pair in ((0, 0), (11, 0), (0, -22), (LONGEST - LONGEST % 11, 11)):
            for k in (0, 1):
                load = [(*pair, k)]
                self.assertIs(holds(("same", 11, load, load, [])), False)
        self.assertIs(holds(("same", 12, [(2, 4, 0)], [], [])), False)
        self.assertIs(holds(("same", 12, [(1, 4, 0)], [], [])), True)

    def test_numbers_of_all_sizes(self):
        big = 10 ** 500
        self.assertIs(holds(("same", 11, [(1 + 11 * big, 0, big)], [(1, 0, big)], [])), True)
        self.assertIs(holds(("same", 11, [(1 + 11 * big, 0, big)], [(1, 0, big - 1)], [])), False)


class TestAnyThing(unittest.TestCase):
    def test_things(self):
        for thing in (*OTHER_THINGS, *STRANGERS, LONGEST, "led", ("led",), ("led", 11), ("same", 11, [], []),
                      ("same", 11, [], [], [], []), ["same", 11, [], [], []], ("other", 11, [], [], []),
                      ("deed", 11, 1, (1, 0), (1, 0)), ("SAME", 11, [], [], []),
                      (["same"], 11, [], [], []), (("same",), 11, [], [], []), (True, 11, [], [], []),
                      ("same", [11], [], [], []), ("same",) * 5, nested(5, "same")):
            self.assertIs(holds(thing), False, repr(thing)[:60])
            self.assertIs(holds((thing,)), False)
            self.assertIs(holds(("same", 11, thing, [], [])), thing == [], repr(thing)[:60])
            self.assertIs(holds(("apart", 11, [(0, 1, 1)], [], thing)), False)
            self.assertIs(holds(("deed", 11, 1, (1, 0), (0, 1), thing)), False)
            self.assertIs(holds(("led", 11, (1, 0), (1, 0), thing)), repr(thing) == "((1, 0), (0, 1))")

    def test_random_things(self):
        chance = random.Random(5)
        parts = ["same", "apart", "led", "deed", "half", "third", 1, 2, 11, 0, -1, True, None, [], (1, 0), (0, 1),
                 ((1, 0), (0, 1)), [(1, 0, 1)], [((1, 0), (0, 1))], ("half", 1, 0, (1, 1)), [0] * 12, [0] * 3]
        for each in range(20000):
            thing = tuple(chance.choice(parts) for part in range(chance.choice((4, 5, 5, 5, 6, 6))))
            if chance.random() < 0.7:
                thing = (chance.choice(parts[:4]), chance.choice((1, 2, 11)), *thing[2:])
            self.assertIs(holds(thing), reference.paper_holds(thing), thing)

    def test_truths_are_no_numbers(self):
        self.assertIs(holds(("led", 1, (True, 0), (1, 0), ((1, 0), (0, 1)))), False)
        self.assertIs(holds(("led", 1, (1, 0), (1, False), ((1, 0), (0, 1)))), False)
        self.assertIs(holds(("led", 1, (1, 0), (1, 0), ((True, 0), (0, 1)))), False)
        self.assertIs(holds(("led", True, (1, 0), (1, 0), ((1, 0), (0, 1)))), False)
        self.assertIs(holds(("deed", 1, True, (1, 0), (0, 1), [((1, 0), (0, 1))])), False)
        self.assertIs(holds(("deed", 1, 1, (1, 0), (0, 1), [((True, 0), (0, 1))])), False)
        self.assertIs(holds(("deed", 1, 1, (1, 0), (0, 1), [((1, 0), (0, 1))])), True)
        self.assertIs(holds(("same", 2, [(1, 0, True)], [(1, 0, 1)], [])), False)
        self.assertIs(holds(("same", 2, [(True, 0, 1)], [(1, 0, 1)], [])), False)

    def test_what_is_handed_in_stays(self):
        for n in (1, 2, 11):
            for paper in small_papers(n):
                kept = copy.deepcopy(paper)
                self.assertIs(holds(paper), True)
                self.assertEqual(paper, kept)
                parts = [part for part in paper if isinstance(part, list) and part]
                for part in parts:
                    spoil(part)
                self.assertIs(holds(kept), True)
                if parts:
                    self.assertIs(holds(paper), False)


if __name__ == "__main__":
    unittest.main()
