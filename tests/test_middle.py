"""Promises [9] and [10], and what [2], [3] and [5] say of them: the middle."""

import unittest
from fractions import Fraction

from shapes import alike_trees, few_trees, mixed_tree, names, row_tree, slow_lengths, slow_point
from shapes import some_trees, star_tree, with_lengths

from farplaces.far.middle import farthest_of_each, middle_point, middles
from farplaces.far.pairs import farthest
from farplaces.trees.texts import read_tree, tree_shown

ALONE = (("a",), ())
#  d -5- b -1- a -10- e, and c on b by 100
FIVE = (
    ("e", "c", "a", "d", "b"),
    (("c", "b", 100), ("a", "b", 1), ("b", "d", 5), ("a", "e", 10)),
)
# A star about m: b, c and a are all 4 apart, each is 2 from m.
STAR = (
    ("b", "m", "c", "a"),
    (("a", "m", 2), ("m", "c", 2), ("m", "b", 2)),
)
# z -3- y -1- x -3- w
ROW = (
    ("w", "z", "x", "y"),
    (("y", "z", 3), ("x", "w", 3), ("x", "y", 1)),
)
# Names of which one is the beginning of another.
NEAR = (
    ("aa", "a", "ab", "aab"),
    (("a", "aab", 3), ("ab", "aa", 4), ("aa", "a", 2)),
)


def two(length):
    """Two places, the tie told from the one behind."""
    return ("b", "a"), (("a", "b", length),)


class OfEach(unittest.TestCase):
    def test_worked_out_by_hand(self):
        self.assertEqual(farthest_of_each(two(7)), (7, 7))
        self.assertEqual(farthest_of_each(FIVE), (111, 111, 101, 105, 100))
        self.assertEqual(farthest_of_each(STAR), (4, 2, 4, 4))
        self.assertEqual(farthest_of_each(ROW), (7, 7, 4, 4))
        self.assertEqual(farthest_of_each(NEAR), (5, 6, 9, 9))

    def test_the_least_worked_out_by_hand(self):
        self.assertEqual(middles(two(7)), (7, ("b", "a")))
        self.assertEqual(middles(FIVE), (100, ("b",)))
        self.assertEqual(middles(STAR), (2, ("m",)))
        self.assertEqual(middles(ROW), (4, ("x", "y")))
        self.assertEqual(middles(NEAR), (5, ("aa",)))

    def test_the_order_is_that_of_the_places(self):
        for ties in (ROW[1], ROW[1][::-1]):
            self.assertEqual(farthest_of_each((("y", "w", "z", "x"), ties)), (4, 7, 7, 4))
            self.assertEqual(middles((("y", "w", "z", "x"), ties)), (4, ("y", "x")))
            self.assertEqual(middles((("x", "w", "y", "z"), ties)), (4, ("x", "y")))

    def test_a_place_alone(self):
        self.assertEqual(farthest_of_each(ALONE), (0,))
        self.assertEqual(middles(ALONE), (0, ("a",)))

    def test_against_all_ways_one_by_one(self):
        for tree in [*some_trees(), *alike_trees()]:
            places = tree[0]
            lengths = slow_lengths(tree)
            reaches = [max([lengths[one, other] for other in places]) for one in places]
            least = min(reaches)
            told = [places[k] for k in range(len(places)) if reaches[k] == least]
            self.assertEqual(farthest_of_each(tree), tuple(reaches))
            self.assertEqual(middles(tree), (least, tuple(told)))


class Middle(unittest.TestCase):
    def test_at_a_place(self):
        self.assertEqual(middle_point(ALONE), (("a", "a", (0, 1)), (0, 1)))
        self.assertEqual(middle_point(STAR), (("m", "m", (0, 1)), (2, 1)))
        tree = (("x", "y", "z"), (("z", "y", 3), ("y", "x", 3)))
        self.assertEqual(middle_point(tree), (("y", "y", (0, 1)), (3, 1)))
        tree = (("a", "b", "c", "d"), (("a", "b", 1), ("b", "c", 2), ("c", "d", 3)))
        self.assertEqual(middle_point(tree), (("c", "c", (0, 1)), (3, 1)))

    def test_amid_the_only_tie(self):
        self.assertEqual(middle_point(two(1)), (("b", "a", (1, 2)), (1, 2)))
        self.assertEqual(middle_point(two(2)), (("b", "a", (1, 1)), (1, 1)))
        self.assertEqual(middle_point(two(7)), (("b", "a", (7, 2)), (7, 2)))
        self.assertEqual(middle_point(two(10 ** 6)), (("b", "a", (500000, 1)), (500000, 1)))
        self.assertEqual(middle_point(two(999999)), (("b", "a", (999999, 2)), (999999, 2)))

    def test_worked_out_by_hand(self):
        self.assertEqual(middle_point(FIVE), (("c", "b", (111, 2)), (111, 2)))
        self.assertEqual(middle_point(ROW), (("x", "y", (1, 2)), (7, 2)))
        self.assertEqual(middle_point(NEAR), (("aa", "a", (1, 2)), (9, 2)))

    def test_one_ahead_of_other_whichever_way_the_tie_is_told(self):
        # w -2- x -5- y: the middle is 7 / 2 from both ends, on the tie of x and y.
        for tie in (("x", "y", 5), ("y", "x", 5)):
            for ties in ((tie, ("w", "x", 2)), (("x", "w", 2), tie)):
                for places in (("w", "x", "y"), ("x", "w", "y"), ("x", "y", "w")):
                    told = (("x", "y", (3, 2)), (7, 2))
                    self.assertEqual(middle_point((places, ties)), told)
                for places in (("w", "y", "x"), ("y", "w", "x"), ("y", "x", "w")):
                    told = (("y", "x", (7, 2)), (7, 2))
                    self.assertEqual(middle_point((places, ties)), told)

    def test_at_each_part_of_a_tie(self):
        # p -LEFT- q -9- r -RIGHT- s: the middle moves along the tie of q and r.
        for left in range(1, 12):
            for right in range(1, 12):
                ties = (("s", "r", right), ("q", "r", 9), ("p", "q", left))
                part = Fraction(left + 9 + right, 2) - left
                half = Fraction(left + 9 + right, 2).as_integer_ratio()
                if part <= 0 or part >= 9:
                    continue
                self.assertEqual(middle_point((("p", "q", "r", "s"), ties)),
                                 (("q", "r", part.as_integer_ratio()), half))
                self.assertEqual(middle_point((("r", "s", "p", "q"), ties)),
                                 (("r", "q", (9 - part).as_integer_ratio()), half))

    def test_the_one_point_from_which_the_farthest_is_nearest(self):
        trees = [tree for many in (1, 2, 3, 4) for tree in few_trees(many, (1, 2, 5))]
        for tree in [*trees, with_lengths(mixed_tree(9, 3), (3, 1, 4)), STAR, ROW, FIVE, NEAR]:
            points = [(place, place, (0, 1)) for place in tree[0]]
            for one, other, length in tree[1]:
                parts = [Fraction(k, 2).as_integer_ratio() for k in range(1, 2 * length)]
                points += [(*pair, part) for pair in ((one, other), (other, one)) for part in parts]
            best = []
            least = None
            for point in points:
                lengths = slow_point(tree, point)
                if lengths is None:
                    continue
                if least is None or max(lengths) < least:
                    best, least = [], max(lengths)
                if max(lengths) == least:
                    best.append(point)
            self.assertEqual(len(best), 1)
            self.assertEqual(middle_point(tree), (best[0], least.as_integer_ratio()))

    def test_it_is_half_of_the_greatest_length(self):
        for tree in [*some_trees(), *alike_trees()]:
            point, half = middle_point(tree)
            lengths = slow_point(tree, point)
            greatest = max(slow_lengths(tree).values())
            self.assertEqual(max(lengths), Fraction(greatest, 2))
            self.assertEqual(half, Fraction(greatest, 2).as_integer_ratio())
            self.assertEqual(farthest(tree)[0], greatest)

    def test_a_long_row(self):
        for many in (30, 59, 60):
            places = names(many)
            ties = tuple([(places[k], places[k - 1], 10 ** 6) for k in range(1, many)])
            here, there = places[(many - 1) // 2], places[many // 2]
            part = (0, 1) if many % 2 else (500000, 1)
            told = ((here, there, part), ((many - 1) * 500000, 1))
            self.assertEqual(middle_point((places, ties)), told)

    def test_trees_that_were_read(self):
        tree = read_tree(tree_shown(NEAR))
        self.assertEqual(middle_point(tree), (("aa", "a", (1, 2)), (9, 2)))
        self.assertEqual(middles(tree), (5, ("aa",)))


class Kinds(unittest.TestCase):
    def test_kinds(self):
        for tree in (ALONE, two(1), two(2), FIVE, STAR, row_tree(30), star_tree(30)):
            reaches = farthest_of_each(tree)
            self.assertIs(type(reaches), tuple)
            self.assertEqual({type(reach) for reach in reaches}, {int})
            told = middles(tree)
            self.assertIs(type(told), tuple)
            self.assertEqual([type(part) for part in told], [int, tuple])
            self.assertEqual({type(place) for place in told[1]}, {str})
            told = middle_point(tree)
            self.assertIs(type(told), tuple)
            self.assertEqual([type(part) for part in told], [tuple, tuple])
            self.assertEqual([type(part) for part in told[0]], [str, str, tuple])
            self.assertEqual([type(part) for part in told[0][2]], [int, int])
            self.assertEqual([type(part) for part in told[1]], [int, int])

    def test_what_is_handed_in_stays_and_the_same_is_told_again(self):
        tree = mixed_tree(30, 3)
        before = repr(tree)
        told = []
        for _ in range(2):
            told.append((farthest_of_each(tree), middles(tree), middle_point(tree)))
            middle_point(FIVE)
        self.assertEqual(told[0], told[1])
        self.assertEqual(repr(tree), before)


if __name__ == "__main__":
    unittest.main()
