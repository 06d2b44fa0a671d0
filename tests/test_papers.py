"""Promise [11], and what [2], [3] and [5] say of it: papers of the greatest length."""

import itertools
import unittest
from fractions import Fraction

from shapes import alike_trees, all_trees, few_trees, mixed_tree, slow_lengths, slow_pairs
from shapes import slow_point, some_trees, star_tree

from farplaces.far.middle import middle_point, paper_shown
from farplaces.far.pairs import all_farthest, farthest

ALONE = (("a",), ())
# w -2- x -5- y: the middle is on the tie of x and y, 3 / 2 from x.
BENT = (("w", "x", "y"), (("y", "x", 5), ("w", "x", 2)))
# A star about m: b, c and a are all 4 apart, d is nearer.
STAR = (
    ("b", "m", "c", "d", "a"),
    (("a", "m", 2), ("m", "c", 2), ("d", "m", 1), ("m", "b", 2)),
)
# p -1- q -6- r -3- s: the middle is 4 on from q, a whole number.
EVEN = (("r", "p", "s", "q"), (("q", "r", 6), ("p", "q", 1), ("s", "r", 3)))
# Two arms alike: the middle is h itself, d is not so far.
ARMS = (
    ("a", "b", "h", "c", "d"),
    (("h", "b", 3), ("c", "h", 3), ("a", "h", 3), ("d", "c", 3)),
)


def slow_shown(tree, number, paper):
    """What [11] says, word by word."""
    point, pair = paper
    lengths = slow_point(tree, point)
    if lengths is None or not set(pair) <= set(tree[0]):
        return False
    half = Fraction(number, 2)
    one, other = [lengths[tree[0].index(place)] for place in pair]
    return slow_lengths(tree)[pair] == number and one == other == half and max(lengths) <= half


class Papers(unittest.TestCase):
    def check_shown(self, told, tree, number, point, pair):
        for both in (pair, pair[::-1]):
            found = paper_shown(tree, number, (point, both))
            self.assertIs(found, told, (tree, number, point, both))

    def shown(self, *told):
        self.check_shown(True, *told)

    def not_shown(self, *told):
        self.check_shown(False, *told)

    def test_shown_in_either_order(self):
        self.shown(ALONE, 0, ("a", "a", (0, 1)), ("a", "a"))
        self.shown((("b", "a"), (("a", "b", 7),)), 7, ("b", "a", (7, 2)), ("a", "b"))
        self.shown((("b", "a"), (("a", "b", 8),)), 8, ("b", "a", (4, 1)), ("a", "b"))
        self.shown(BENT, 7, ("x", "y", (3, 2)), ("w", "y"))
        self.shown(EVEN, 10, ("r", "q", (2, 1)), ("p", "s"))
        self.shown(ARMS, 9, ("h", "c", (3, 2)), ("a", "d"))
        self.shown(ARMS, 9, ("h", "c", (3, 2)), ("b", "d"))
        for pair in (("b", "c"), ("b", "a"), ("c", "a")):
            self.shown(STAR, 4, ("m", "m", (0, 1)), pair)

    def test_another_number(self):
        for number in (0, 1, 3, 5, 6, 8, 14, -7, -1, 10 ** 9):
            self.not_shown(BENT, number, ("x", "y", (3, 2)), ("w", "y"))
        for number in (0, 1, 2, 3, 5, 8, -4):
            self.not_shown(STAR, number, ("m", "m", (0, 1)), ("b", "c"))
        for number in (-2, -1, 1, 2):
            self.not_shown(ALONE, number, ("a", "a", (0, 1)), ("a", "a"))

    def test_another_point(self):
        for part in ((1, 2), (1, 1), (2, 1), (5, 2), (7, 2), (9, 2), (4, 3), (5, 3), (29999, 20000)):
            self.not_shown(BENT, 7, ("x", "y", part), ("w", "y"))
        for part in ((1, 2), (1, 1), (3, 2)):
            self.not_shown(BENT, 7, ("w", "x", part), ("w", "y"))
        for place in BENT[0]:
            self.not_shown(BENT, 7, (place, place, (0, 1)), ("w", "y"))
        for place in ("b", "c", "d", "a"):
            self.not_shown(STAR, 4, (place, place, (0, 1)), ("b", "c"))
        # Equally far from the two, but off their way.
        self.not_shown(STAR, 4, ("m", "d", (1, 2)), ("b", "c"))
        self.not_shown(STAR, 4, ("m", "a", (1, 1)), ("b", "c"))

    def test_a_part_not_in_least_terms(self):
        for part in ((6, 4), (9, 6), (30, 20), (-3, -2), (-6, -4)):
            self.not_shown(BENT, 7, ("x", "y", part), ("w", "y"))
        for part in ((4, 2), (6, 3), (-2, -1)):
            self.not_shown(EVEN, 10, ("r", "q", part), ("p", "s"))

    def test_no_fraction_at_all(self):
        for part in ((3, 0), (0, 0), (1, 0), (-1, 0), (3, -2), (-3, 2), (0, -1), (0, 1), (0, 2)):
            self.not_shown(BENT, 7, ("x", "y", part), ("w", "y"))
            self.not_shown(STAR, 4, ("m", "c", part), ("b", "c"))

    def test_a_part_told_from_the_other_end(self):
        self.not_shown(BENT, 7, ("y", "x", (3, 2)), ("w", "y"))
        self.not_shown(BENT, 7, ("y", "x", (7, 2)), ("w", "y"))
        self.not_shown(EVEN, 10, ("q", "r", (4, 1)), ("p", "s"))
        self.not_shown(EVEN, 10, ("q", "r", (2, 1)), ("p", "s"))
        self.not_shown(EVEN, 10, ("r", "q", (4, 1)), ("p", "s"))

    def test_a_part_of_nothing_or_of_the_whole_tie(self):
        # The point that is meant is m, which is to be told as a place.
        self.not_shown(STAR, 4, ("m", "c", (0, 1)), ("b", "c"))
        self.not_shown(STAR, 4, ("m", "a", (0, 1)), ("b", "c"))
        self.not_shown(STAR, 4, ("b", "m", (2, 1)), ("b", "c"))
        self.not_shown(BENT, 7, ("x", "y", (5, 1)), ("w", "y"))
        row = (("a", "b", "c"), (("a", "b", 3), ("b", "c", 3)))
        self.shown(row, 6, ("b", "b", (0, 1)), ("a", "c"))
        self.not_shown(row, 6, ("a", "b", (3, 1)), ("a", "c"))
        self.not_shown(row, 6, ("b", "c", (0, 1)), ("a", "c"))

    def test_a_part_beyond_the_tie(self):
        # In a straight row the point that is meant is the middle all the same.
        row = (("a", "b", "c"), (("a", "b", 1), ("b", "c", 5)))
        self.shown(row, 6, ("b", "c", (2, 1)), ("a", "c"))
        self.not_shown(row, 6, ("a", "b", (3, 1)), ("a", "c"))
        row = (("a", "b", "c"), (("a", "b", 5), ("b", "c", 1)))
        self.shown(row, 6, ("a", "b", (3, 1)), ("a", "c"))
        self.not_shown(row, 6, ("b", "c", (-2, 1)), ("a", "c"))

    def test_a_place_told_otherwise(self):
        for part in ((0, 2), (0, -1), (0, 0), (1, 1), (1, 2), (2, 1), (-1, 1), (1, 0)):
            self.not_shown(STAR, 4, ("m", "m", part), ("b", "c"))
            self.not_shown(ALONE, 0, ("a", "a", part), ("a", "a"))

    def test_two_places_that_have_no_tie(self):
        self.not_shown(BENT, 7, ("w", "y", (7, 2)), ("w", "y"))
        self.not_shown(BENT, 7, ("w", "y", (5, 2)), ("w", "y"))
        self.not_shown(STAR, 4, ("b", "c", (2, 1)), ("b", "c"))
        self.not_shown(EVEN, 10, ("p", "s", (5, 1)), ("p", "s"))

    def test_names_that_are_no_places(self):
        self.not_shown(BENT, 7, ("q", "q", (0, 1)), ("w", "y"))
        self.not_shown(BENT, 7, ("x", "q", (3, 2)), ("w", "y"))
        self.not_shown(BENT, 7, ("q", "y", (3, 2)), ("w", "y"))
        self.not_shown(BENT, 7, ("q", "z", (3, 2)), ("w", "y"))
        self.not_shown(BENT, 7, ("x", "y", (3, 2)), ("w", "q"))
        self.not_shown(BENT, 7, ("x", "y", (3, 2)), ("q", "y"))
        self.not_shown(BENT, 7, ("x", "y", (3, 2)), ("q", "z"))
        self.not_shown(BENT, 7, ("x", "y", (3, 2)), ("q", "q"))
        self.not_shown(ALONE, 0, ("b", "b", (0, 1)), ("a", "a"))
        self.not_shown(ALONE, 0, ("a", "a", (0, 1)), ("a", "b"))
        self.not_shown(ALONE, 0, ("a", "a", (0, 1)), ("b", "b"))
        self.not_shown(ALONE, 0, ("b", "b", (0, 1)), ("b", "b"))
        near = (("ab", "b"), (("ab", "b", 2),))
        self.shown(near, 2, ("ab", "b", (1, 1)), ("ab", "b"))
        self.not_shown(near, 2, ("a", "b", (1, 1)), ("ab", "b"))
        self.not_shown(near, 2, ("ab", "b", (1, 1)), ("a", "b"))

    def test_other_two_places(self):
        self.not_shown(BENT, 7, ("x", "y", (3, 2)), ("w", "x"))
        self.not_shown(BENT, 7, ("x", "y", (3, 2)), ("x", "y"))
        self.not_shown(BENT, 2, ("x", "y", (3, 2)), ("w", "x"))
        self.not_shown(BENT, 0, ("x", "y", (3, 2)), ("y", "y"))
        self.not_shown(BENT, 7, ("x", "y", (3, 2)), ("y", "y"))
        self.not_shown(STAR, 4, ("m", "m", (0, 1)), ("b", "d"))
        self.not_shown(STAR, 3, ("m", "m", (0, 1)), ("b", "d"))
        self.not_shown(STAR, 4, ("m", "m", (0, 1)), ("b", "b"))
        # Both are half of 9 from the point, but on the same side of it.
        self.not_shown(ARMS, 9, ("h", "c", (3, 2)), ("a", "b"))
        self.not_shown(ARMS, 6, ("h", "c", (3, 2)), ("a", "b"))
        self.not_shown(STAR, 0, ("m", "m", (0, 1)), ("m", "m"))

    def test_a_pair_whose_middle_is_not_that_of_the_tree(self):
        self.not_shown(BENT, 5, ("x", "y", (5, 2)), ("x", "y"))
        self.not_shown(BENT, 2, ("w", "x", (1, 1)), ("w", "x"))
        self.not_shown(ARMS, 6, ("h", "h", (0, 1)), ("a", "b"))
        self.not_shown(ARMS, 6, ("h", "h", (0, 1)), ("a", "c"))
        self.not_shown(ARMS, 0, ("h", "h", (0, 1)), ("h", "h"))


class AllPapers(unittest.TestCase):
    def test_what_the_program_tells_is_let_by(self):
        for tree in [*some_trees(), *alike_trees()]:
            greatest, one, other = farthest(tree)
            point, _ = middle_point(tree)
            self.assertIs(paper_shown(tree, greatest, (point, (one, other))), True)
            self.assertIs(paper_shown(tree, greatest, (point, (other, one))), True)
            for pair in all_farthest(tree)[-20:]:
                self.assertIs(paper_shown(tree, greatest, (point, pair)), True)

    def test_all_papers_of_the_least_trees(self):
        trees = [tree for many in (1, 2) for tree in few_trees(many, (1, 2, 3))]
        for tree in [*trees, *all_trees(3, (1, 2))]:
            told = tree[0] + ("x",)
            parts = list(itertools.product((-1, 0, 1, 2, 3, 4, 6), (-1, 0, 1, 2, 3, 4)))
            greatest = max(slow_lengths(tree).values())
            pairs = list(itertools.product(told, told))
            for one, other in itertools.product(told, told):
                for part in parts:
                    for number in (greatest - 1, greatest, greatest + 1):
                        for pair in pairs:
                            paper = ((one, other, part), pair)
                            self.assertIs(paper_shown(tree, number, paper),
                                          slow_shown(tree, number, paper), (tree, number, paper))

    def test_papers_of_small_trees(self):
        for tree in [*all_trees(3, (3, 3)), *all_trees(4, (1, 1, 2)), *all_trees(4, (2, 4, 2))]:
            points = [(place, place, (0, 1)) for place in tree[0]]
            for one, other in itertools.permutations(tree[0], 2):
                points += [(one, other, Fraction(k, 2).as_integer_ratio()) for k in range(1, 9)]
            for length, one, other in slow_pairs(tree):
                for point in points:
                    paper = (point, (one, other))
                    self.assertIs(paper_shown(tree, length, paper),
                                  slow_shown(tree, length, paper), (tree, length, paper))

    def test_a_paper_that_is_let_by_shows_the_greatest_length(self):
        for tree in [*all_trees(4), *all_trees(4, (2, 2, 2)), *all_trees(5, (2, 1, 2, 1))]:
            greatest = max(slow_lengths(tree).values())
            for length, one, other in slow_pairs(tree):
                point, _ = middle_point(tree)
                shown = paper_shown(tree, length, (point, (one, other)))
                self.assertIs(shown, length == greatest)

    def test_papers_of_great_trees(self):
        for tree in (star_tree(30), mixed_tree(30, 4), mixed_tree(60, 9)):
            greatest, one, other = farthest(tree)
            point, _ = middle_point(tree)
            for number in (greatest - 1, greatest + 1, -greatest, 2 * greatest):
                self.assertIs(paper_shown(tree, number, (point, (one, other))), False)
            for length, first, second in slow_pairs(tree):
                shown = paper_shown(tree, greatest, (point, (second, first)))
                self.assertIs(shown, length == greatest)

    def test_what_is_handed_in_stays_and_the_same_is_told_again(self):
        tree = mixed_tree(30, 3)
        paper = (middle_point(tree)[0], farthest(tree)[1:])
        before = repr((tree, paper))
        for _ in range(2):
            self.assertIs(paper_shown(tree, farthest(tree)[0], paper), True)
            self.assertIs(paper_shown(BENT, farthest(tree)[0], paper), False)
        self.assertEqual(repr((tree, paper)), before)


if __name__ == "__main__":
    unittest.main()
