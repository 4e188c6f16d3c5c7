"""Points 11 and 12: halves, thirds, following ones, edges, triangles, corners, the genus; point 2 of what they tell."""

import unittest

import reference
from common import LEVELS, LONGEST, OTHER_THINGS, refusal
from fractionroads.ends import end, ends, place_at, width
from fractionroads.errors import NoLevel
from fractionroads.levels import Level
from fractionroads.surface import (cones_counted, corners, edges, folded_counted, following, genus, halves, thirds,
                                   triangles)
from fractionroads.turnings import led

ALL_LEVELS = {n: Level(n) for n in LEVELS}
GENERA = {11: 1, 14: 1, 15: 1, 17: 1, 19: 1, 20: 1, 21: 1, 22: 2, 23: 2, 24: 1, 26: 2, 27: 1, 28: 2, 29: 2, 30: 3,
          31: 2, 32: 1, 33: 3, 34: 3, 35: 3, 36: 1, 37: 2, 38: 4, 39: 3, 40: 3, 41: 3, 42: 5, 43: 3, 44: 4, 45: 3,
          46: 5, 47: 4, 48: 3}


def together(numbers):
    """The lists of those that the numbers lead to one another, found by putting together what hangs together."""
    groups = [{at} for at in range(len(numbers))]
    for at, number in enumerate(numbers):
        one = next(group for group in groups if at in group)
        other = next(group for group in groups if number in group)
        if one is not other:
            groups.remove(other)
            one |= other
    return sorted(sorted(group) for group in groups)


class TestHalvesThirdsFollowing(unittest.TestCase):
    def test_examples(self):
        for n, told in ((1, ([0], [0], [0])), (2, ([1, 0, 2], [1, 2, 0], [0, 2, 1])),
                        (3, ([1, 0, 3, 2], [1, 3, 2, 0], [0, 2, 3, 1]))):
            level = Level(n)
            self.assertEqual((halves(level), thirds(level), following(level)), told)

    def test_every_level(self):
        for n, level in ALL_LEVELS.items():
            self.assertEqual(halves(level), reference.half_list(n))
            self.assertEqual(thirds(level), reference.third_list(n))
            self.assertEqual(following(level), reference.following_list(n))

    def test_what_point_11_says_of_them(self):
        for level in ALL_LEVELS.values():
            half, third, after = halves(level), thirds(level), following(level)
            self.assertEqual([type(each) for each in (half, third, after)], [list] * 3)
            for x in range(len(half)):
                self.assertEqual(half[half[x]], x)
                self.assertEqual(third[third[third[x]]], x)
                self.assertEqual(third[x], half[after[x]])


class TestEdgesTrianglesCorners(unittest.TestCase):
    def test_examples(self):
        self.assertEqual((edges(Level(1)), triangles(Level(1)), corners(Level(1))), ([[0]], [[0]], [[0]]))
        self.assertEqual(edges(Level(2)), [[0, 1], [2]])
        self.assertEqual(triangles(Level(2)), [[0, 1, 2]])
        self.assertEqual(corners(Level(2)), [[0], [1, 2]])
        self.assertEqual(edges(Level(3)), [[0, 1], [2, 3]])
        self.assertEqual(triangles(Level(3)), [[0, 1, 3], [2]])
        self.assertEqual(corners(Level(3)), [[0], [1, 2, 3]])

    def test_every_level(self):
        for n, level in ALL_LEVELS.items():
            self.assertEqual(edges(level), together(reference.half_list(n)))
            self.assertEqual(triangles(level), together(reference.third_list(n)))
            self.assertEqual(corners(level), together(reference.following_list(n)))

    def test_they_are_lists_of_lists(self):
        for told in (edges(Level(12)), triangles(Level(12)), corners(Level(12))):
            self.assertEqual({type(each) for each in told}, {list})
            self.assertEqual({type(number) for each in told for number in each}, {int})

    def test_corners_are_the_ends(self):
        for level in ALL_LEVELS.values():
            told = corners(level)
            self.assertEqual(len(told), len(ends(level)))
            found = []
            for corner in told:
                at = {end(level, led(level.turning_of(k), (1, 0))) for k in corner}
                self.assertEqual(len(at), 1)
                found += at
                self.assertEqual(len(corner), width(level, place_at(level, found[-1])))
            self.assertEqual(sorted(found), ends(level))

    def test_all_symbols_hang_together(self):
        for level in ALL_LEVELS.values():
            half, third = halves(level), thirds(level)
            seen = {0}
            new = [0]
            while new:
                at = new.pop()
                for number in (half[at], third[at]):
                    if number not in seen:
                        seen.add(number)
                        new.append(number)
            self.assertEqual(seen, set(range(len(half))))


class TestGenus(unittest.TestCase):
    def test_every_level(self):
        for n, level in ALL_LEVELS.items():
            self.assertEqual(genus(level), GENERA.get(n, 0))
            self.assertIs(type(genus(level)), int)

    def test_by_corners_edges_and_triangles(self):
        for level in ALL_LEVELS.values():
            sides = [edge for edge in edges(level) if len(edge) == 2]
            self.assertEqual(2 - 2 * genus(level), len(corners(level)) - len(sides) + len(triangles(level)))


class TestFoldedAndCones(unittest.TestCase):
    def test_examples(self):
        self.assertEqual([folded_counted(n) for n in (1, 2, 3, 4, 5, 10, 25, 41)], [1, 1, 0, 0, 2, 2, 2, 2])
        self.assertEqual([cones_counted(n) for n in (1, 2, 3, 7, 9, 13, 21, 39, 48)], [1, 0, 1, 2, 0, 2, 2, 2, 0])

    def test_every_level(self):
        for n, level in ALL_LEVELS.items():
            half, third = halves(level), thirds(level)
            self.assertEqual(folded_counted(n), len([x for x in range(len(half)) if half[x] == x]))
            self.assertEqual(cones_counted(n), len([x for x in range(len(third)) if third[x] == x]))
            self.assertEqual(folded_counted(n), len([x for x in range(n) if (x * x + 1) % n == 0]))
            self.assertEqual(cones_counted(n), len([x for x in range(n) if (x * x + x + 1) % n == 0]))

    def test_things_that_are_no_levels(self):
        for thing in (0, -1, 49, -48, LONGEST, -LONGEST, 10 ** 60 - 1, [1], (1,), [2], *OTHER_THINGS):
            with self.subTest(repr(thing)[:60]):
                self.assertIs(refusal(folded_counted, thing), NoLevel)
                self.assertIs(refusal(cones_counted, thing), NoLevel)


class TestToldLists(unittest.TestCase):
    def test_numbers(self):
        for n in (1, 2, 11, 48):
            level = Level(n)
            for ask in (halves, thirds, following):
                earlier = ask(level)
                kept = list(earlier)
                told = ask(level)
                told[0] = "other"
                told.append("more")
                self.assertEqual(ask(level), kept)
                self.assertEqual(earlier, kept)

    def test_lists_within_lists(self):
        for n in (1, 2, 11, 48):
            level = Level(n)
            many = genus(level)
            for ask in (edges, triangles, corners):
                earlier = ask(level)
                kept = [list(each) for each in earlier]
                told = ask(level)
                for each in told:
                    each[0] = "other"
                    each.append("more")
                told.pop()
                self.assertEqual(ask(level), kept)
                self.assertEqual(earlier, kept)
            self.assertEqual(genus(level), many)


if __name__ == "__main__":
    unittest.main()
