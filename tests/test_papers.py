"""Point 28: two loads judged, by sums of relations or by weights; point 2 of what is told."""

import math
import random
import unittest

import reference
from common import LEVELS, LONG, LONGEST, PRIME, SMALL_PLACES, long_places, random_load, refusal, spoil
from fractionroads.checker import holds
from fractionroads.errors import NoSymbol
from fractionroads.levels import Level
from fractionroads.papers import judged
from fractionroads.places import way
from fractionroads.rooms import Room
from fractionroads.turnings import led

ROOMS = {n: Room(Level(n)) for n in LEVELS}
SOME_LEVELS = (1, 2, 3, 5, 7, 11, 12, 13, 22, 26, 30, 37, 42, 48)


def same_load(n, load, seed, many):
    """The load and so many relations, each taken some times, in another order: at most two hundred tuples."""
    chance = random.Random(seed)
    symbols = ROOMS[n].level().symbols()
    told = list(load)
    for each in range(many):
        relation = chance.choice(reference.relations(n))
        k = chance.choice((1, -1, 7, LONG, -10 ** 40))
        told += [(*symbols[x], k) for x in relation]
    chance.shuffle(told)
    return told


class TestJudged(unittest.TestCase):
    def judge(self, n, one, other, word):
        """Judges two loads; the paper has the word and holds, by the checker's words and by the tests' own."""
        kept = (list(one), list(other))
        paper = judged(ROOMS[n], one, other)
        self.assertEqual((one, other), kept)
        self.assertIs(type(paper), tuple)
        self.assertEqual(paper[:2], (word, n))
        self.assertEqual(paper[2:4], kept)
        self.assertEqual([type(part) for part in paper], [str, int, list, list, list])
        self.assertTrue(reference.paper_holds(paper), (n, word))
        self.assertIs(holds(paper), True)
        return paper

    def test_the_same(self):
        for n in LEVELS:
            self.judge(n, [], [], "same")
            self.judge(n, [(1, 0, 1)], [(1, 0, 1)], "same")
            self.judge(n, [(1, 0, 5), (0, 1, 5)], [], "same")
            self.judge(n, [(0, 1, 5)], [(1, 0, -5)], "same")
            self.judge(n, [(1, 1, 1), (2, -1, 1), (1, -2, 1)], [], "same")
            for many, figures in ((1, 1), (3, 60), (20, 5)):
                load = random_load(ROOMS[n].level(), n + many, many, figures)
                self.judge(n, load, same_load(n, load, n, 4), "same")
                self.judge(n, same_load(n, load, n, 12), load, "same")

    def test_each_relation(self):
        for n in LEVELS:
            symbols = ROOMS[n].level().symbols()
            for at, relation in enumerate(reference.relations(n)):
                paper = self.judge(n, [(*symbols[x], 1 + at % 3) for x in relation], [], "same")
                self.assertNotEqual(paper[4], [])

    def test_folded_ones_and_cones(self):
        """What is its own half or third is nought by fractions alone."""
        found = 0
        for n in LEVELS:
            half, third = reference.half_list(n), reference.third_list(n)
            for x, (u, v) in enumerate(ROOMS[n].level().symbols()):
                if x in (half[x], third[x]):
                    found += 1
                    for k in (1, -1, 2, 3, 6, LONG, -10 ** 59):
                        paper = self.judge(n, [(u, v, k)], [], "same")
                        self.judge(n, [], [(u, v, k)], "same")
                        self.assertEqual({type(times) for word, a, b, times in paper[4]}, {tuple})
        self.assertGreater(found, 20)

    def test_apart(self):
        for n in LEVELS[1:]:
            room = ROOMS[n]
            symbols = room.level().symbols()
            for at, number in enumerate(room.kept()):
                self.judge(n, [(*symbols[number], 1)], [], "apart")
                self.judge(n, [], [(*symbols[number], LONG)], "apart")
                self.judge(n, [(*symbols[number], LONG)], [(*symbols[number], LONG - 1)], "apart")
            load = random_load(room.level(), n, 9, 60)
            self.judge(n, load, same_load(n, load, n, 5) + [(*symbols[room.kept()[-1]], -1)], "apart")

    def test_all_symbols(self):
        for n in LEVELS:
            noughts = [0] * len(ROOMS[n].kept())
            for u, v in ROOMS[n].level().symbols():
                word = "same" if ROOMS[n].symbol_row(u, v) == noughts else "apart"
                self.judge(n, [(u, v, 3)], [], word)
                self.judge(n, [(u, v, 3)], [(-u, -v, 1), (u, v, 2)], "same")

    def test_two_hundred_of_sixty_figures(self):
        for n in SOME_LEVELS:
            load = random_load(ROOMS[n].level(), n, 200, 60)
            other = same_load(n, load[:100], n, 33)
            self.judge(n, load, load[::-1], "same")
            self.judge(n, other, load[:100], "same")
            self.judge(n, [(u, v, -k) for u, v, k in load], [], "same" if n == 1 else "apart")
            self.assertLessEqual(len(other), 200)

    def test_just_where_another_room_tells_so(self):
        for n in (2, 6, 11, 13, 22):
            other_room = reference.OtherRoom(n, n)
            loads = [random_load(ROOMS[n].level(), seed, 1 + seed % 3, 1) for seed in range(3)]
            loads += [[(u, v, 1)] for u, v in other_room.symbols[::2]]
            for one in loads:
                for other in loads:
                    gap = other_room.load_vector(one + [(u, v, -k) for u, v, k in other])
                    self.judge(n, one, other, "apart" if any(gap.values()) else "same")

    def test_walks(self):
        for n in LEVELS:
            for one in SMALL_PLACES[::9] + long_places()[::7]:
                for other in SMALL_PLACES[::12]:
                    turning = ((1, 0), (-n, 1))
                    straight = reference.steps_load(way(one, other))
                    led_load = reference.steps_load(way(led(turning, one), led(turning, other)))
                    self.judge(n, straight, led_load, "same")
                    there = reference.steps_load(way(one, (5, 7))) + reference.steps_load(way((5, 7), other))
                    self.judge(n, there, straight, "same")

    def test_the_sums_are_in_lowest_terms(self):
        for n in (1, 2, 5, 7, 10, 13, 37):
            load = random_load(ROOMS[n].level(), n, 30, 10)
            for word, u, v, times in judged(ROOMS[n], load, same_load(n, load, 1, 5))[4]:
                self.assertIn(word, ("half", "third"))
                self.assertEqual(math.gcd(*times), 1)
                self.assertGreaterEqual(times[1], 1)


class TestNoSymbol(unittest.TestCase):
    def test_either_load(self):
        for n in LEVELS[1:]:
            right = [(1, 0, 1), (0, 1, 1)]
            for pair in ((0, 0), (n, 0), (0, -n), (n * PRIME, n), (LONGEST - LONGEST % n, 0)):
                for k in (1, 0, -LONG):
                    for load in ([(*pair, k)], right + [(*pair, k)], [(*pair, k)] + right):
                        self.assertIs(refusal(judged, ROOMS[n], load, right), NoSymbol)
                        self.assertIs(refusal(judged, ROOMS[n], right, load), NoSymbol)
                        self.assertIs(refusal(judged, ROOMS[n], load, load), NoSymbol)

    def test_what_was_refused_stays(self):
        load = [(1, 0, 1), (2, 4, 1)]
        refusal(judged, ROOMS[12], load, [])
        refusal(judged, ROOMS[12], [], load)
        self.assertEqual(load, [(1, 0, 1), (2, 4, 1)])


class TestPointTwo(unittest.TestCase):
    def test_told_papers(self):
        for n in SOME_LEVELS:
            room = Room(Level(n))
            one = random_load(room.level(), n, 5, 10)
            for other in (same_load(n, one, n, 3), [(1, 0, 1)], one):
                before, earlier = judged(room, one, other), judged(room, one, other)
                for part in judged(room, one, other)[2:]:
                    if part:
                        spoil(part)
                self.assertEqual(judged(room, one, other), before)
                self.assertEqual(earlier, before)

    def test_nothing_handed_in_is_kept(self):
        for n in SOME_LEVELS:
            one, other = [(1, 0, 2), (3, 1, 1)], [(0, 1, -2)]
            paper = judged(ROOMS[n], one, other)
            one.append((1, 1, 1))
            other.clear()
            self.assertEqual(paper[2:4], ([(1, 0, 2), (3, 1, 1)], [(0, 1, -2)]))

    def test_one_list_handed_in_twice(self):
        load = [(1, 3, 2)]
        paper = judged(ROOMS[11], load, load)
        paper[2].append("more")
        self.assertEqual((load, paper[3]), ([(1, 3, 2)], [(1, 3, 2)]))


if __name__ == "__main__":
    unittest.main()
