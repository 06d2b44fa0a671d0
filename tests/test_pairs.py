"""Promises [7] and [8], and what [2], [3] and [5] say of them: the farthest pairs."""

import unittest

from shapes import alike_trees, mixed_tree, names, row_tree, slow_pairs, some_trees, star_tree

from farplaces.far.pairs import all_farthest, count_so_far, farthest, nth_farthest
from farplaces.trees.texts import read_tree, tree_shown

ALONE = (("a",), ())
TWO = (("b", "a"), (("a", "b", 7),))
#  d -5- b -1- a -10- e, and c on b by 10 ** 6
FIVE = (
    ("e", "c", "a", "d", "b"),
    (("c", "b", 10 ** 6), ("a", "b", 1), ("b", "d", 5), ("a", "e", 10)),
)
# A star about m: b, c and a are all 4 apart, each is 2 from m.
STAR = (
    ("b", "m", "c", "a"),
    (("a", "m", 2), ("m", "c", 2), ("m", "b", 2)),
)
# z -3- y -1- x -3- w: once 7, twice 4, twice 3, once 1
ROW = (
    ("w", "z", "x", "y"),
    (("y", "z", 3), ("x", "w", 3), ("x", "y", 1)),
)
# Names of which one is the beginning of another.
NEAR = (
    ("aa", "a", "ab", "aab"),
    (("a", "aab", 3), ("ab", "aa", 4), ("aa", "a", 2)),
)


class Farthest(unittest.TestCase):
    def test_the_first_worked_out_by_hand(self):
        self.assertEqual(farthest(TWO), (7, "b", "a"))
        self.assertEqual(farthest(FIVE), (10 ** 6 + 11, "e", "c"))
        self.assertEqual(farthest(STAR), (4, "b", "c"))
        self.assertEqual(farthest(ROW), (7, "w", "z"))
        self.assertEqual(farthest(NEAR), (9, "ab", "aab"))

    def test_all_worked_out_by_hand(self):
        self.assertEqual(all_farthest(TWO), (("b", "a"),))
        self.assertEqual(all_farthest(FIVE), (("e", "c"),))
        self.assertEqual(all_farthest(STAR), (("b", "c"), ("b", "a"), ("c", "a")))
        self.assertEqual(all_farthest(ROW), (("w", "z"),))

    def test_a_place_alone(self):
        for name in ("a", "z", "abcdefgh"):
            self.assertEqual(farthest(((name,), ())), (0, name, name))
            self.assertEqual(all_farthest(((name,), ())), ())

    def test_the_one_ahead_is_told_first(self):
        self.assertEqual(farthest((("a", "b"), (("a", "b", 7),))), (7, "a", "b"))
        self.assertEqual(farthest((("a", "b"), (("b", "a", 7),))), (7, "a", "b"))
        self.assertEqual(farthest((("b", "a"), (("b", "a", 7),))), (7, "b", "a"))
        self.assertEqual(all_farthest((("b", "a"), (("a", "b", 7),))), (("b", "a"),))

    def test_the_order_is_that_of_the_places_alone(self):
        ties = STAR[1]
        turned = tuple([(other, one, length) for one, other, length in ties])
        for told in (ties, ties[::-1], turned, turned[1:] + ties[:1]):
            tree = (("b", "m", "c", "a"), told)
            self.assertEqual(all_farthest(tree), (("b", "c"), ("b", "a"), ("c", "a")))
            tree = (("a", "c", "m", "b"), told)
            self.assertEqual(farthest(tree), (4, "a", "c"))
            self.assertEqual(all_farthest(tree), (("a", "c"), ("a", "b"), ("c", "b")))
            tree = (("m", "c", "a", "b"), told)
            self.assertEqual(all_farthest(tree), (("c", "a"), ("c", "b"), ("a", "b")))

    def test_against_all_ways_one_by_one(self):
        for tree in [*some_trees(), *alike_trees()]:
            pairs = slow_pairs(tree)
            if not pairs:
                continue
            greatest = max([pair[0] for pair in pairs])
            ones = [pair for pair in pairs if pair[0] == greatest]
            self.assertEqual(farthest(tree), ones[0])
            self.assertEqual(all_farthest(tree), tuple([pair[1:] for pair in ones]))

    def test_a_long_row(self):
        for many in (30, 60):
            places = names(many)
            ties = tuple([(places[k], places[k - 1], 10 ** 6) for k in range(1, many)])
            told = ((many - 1) * 10 ** 6, places[0], places[-1])
            self.assertEqual(farthest((places, ties)), told)
            self.assertEqual(all_farthest((places, ties)), (told[1:],))

    def test_trees_that_were_read(self):
        tree = read_tree(tree_shown(STAR))
        self.assertEqual(farthest(tree), (4, "b", "c"))
        self.assertEqual(all_farthest(tree), (("b", "c"), ("b", "a"), ("c", "a")))


class SoManieth(unittest.TestCase):
    def test_worked_out_by_hand(self):
        told = ((7, "w", "z"), (4, "w", "y"), (4, "z", "x"), (3, "w", "x"), (3, "z", "y"),
                (1, "x", "y"), None)
        for place, pair in enumerate(told):
            self.assertEqual(nth_farthest(ROW, place), pair)
        told = ((4, "b", "c"), (4, "b", "a"), (4, "c", "a"),
                (2, "b", "m"), (2, "m", "c"), (2, "m", "a"), None)
        for place, pair in enumerate(told):
            self.assertEqual(nth_farthest(STAR, place), pair)
        self.assertEqual(nth_farthest(TWO, 0), (7, "b", "a"))
        self.assertIsNone(nth_farthest(TWO, 1))

    def test_of_one_place_there_is_none(self):
        for place in (0, 1, 10 ** 6):
            self.assertIsNone(nth_farthest(ALONE, place))

    def test_the_last_and_one_more_than_the_last(self):
        for tree in (row_tree(30), star_tree(30), mixed_tree(30, 2)):
            self.assertEqual(nth_farthest(tree, 434)[0], 1)
            for place in (435, 436, 10 ** 6):
                self.assertIsNone(nth_farthest(tree, place))
        for tree in (row_tree(60), mixed_tree(60, 2)):
            self.assertEqual(nth_farthest(tree, 1769)[0], 1)
            self.assertIsNone(nth_farthest(tree, 1770))

    def test_against_all_ways_one_by_one(self):
        for tree in [*some_trees(), *alike_trees()]:
            pairs = slow_pairs(tree)
            ranked = []
            for length in sorted({pair[0] for pair in pairs}, reverse=True):
                ranked += [pair for pair in pairs if pair[0] == length]
            many = len(ranked)
            few = range(many) if many < 30 else (0, 1, 2, many // 3, many // 2, many - 2, many - 1)
            for place in few:
                self.assertEqual(nth_farthest(tree, place), ranked[place])
            for place in (many, many + 1, 2 * many + 1, 10 ** 6):
                self.assertIsNone(nth_farthest(tree, place))

    def test_the_first_is_the_farthest(self):
        for tree in (TWO, FIVE, STAR, ROW, star_tree(30), mixed_tree(60, 7)):
            self.assertEqual(nth_farthest(tree, 0), farthest(tree))


class Counted(unittest.TestCase):
    def test_worked_out_by_hand(self):
        told = {0: (0, 6), 1: (1, 5), 2: (0, 5), 3: (2, 3), 4: (2, 1), 5: (0, 1), 6: (0, 1),
                7: (1, 0), 8: (0, 0), 10 ** 9: (0, 0)}
        for length, pair in told.items():
            self.assertEqual(count_so_far(ROW, length), pair)
        told = {0: (0, 6), 1: (0, 6), 2: (3, 3), 3: (0, 3), 4: (3, 0), 5: (0, 0)}
        for length, pair in told.items():
            self.assertEqual(count_so_far(STAR, length), pair)
        self.assertEqual(count_so_far(FIVE, 10 ** 6), (1, 3))

    def test_of_one_place_there_are_none(self):
        for length in (0, 1, 10 ** 9):
            self.assertEqual(count_so_far(ALONE, length), (0, 0))

    def test_against_all_ways_one_by_one(self):
        for tree in [*some_trees(), *alike_trees()]:
            lengths = [pair[0] for pair in slow_pairs(tree)]
            near = {0, 1, 10 ** 9}
            for length in sorted(set(lengths))[-20:]:
                near |= {length - 1, length, length + 1}
            for length in near:
                just = len([found for found in lengths if found == length])
                more = len([found for found in lengths if found > length])
                self.assertEqual(count_so_far(tree, length), (just, more))


class Kinds(unittest.TestCase):
    def test_kinds(self):
        for tree in (ALONE, TWO, FIVE, STAR, star_tree(30)):
            told = [farthest(tree)]
            if len(tree[0]) > 1:
                told += [nth_farthest(tree, 0), nth_farthest(tree, 5) or farthest(tree)]
            for triple in told:
                self.assertIs(type(triple), tuple)
                self.assertEqual([type(part) for part in triple], [int, str, str])
            self.assertIs(type(all_farthest(tree)), tuple)
            for pair in all_farthest(tree):
                self.assertIs(type(pair), tuple)
                self.assertEqual([type(part) for part in pair], [str, str])
            for length in (0, 4, 7):
                counted = count_so_far(tree, length)
                self.assertIs(type(counted), tuple)
                self.assertEqual([type(part) for part in counted], [int, int])

    def test_what_is_handed_in_stays_and_the_same_is_told_again(self):
        tree = mixed_tree(30, 3)
        before = repr(tree)
        told = []
        for _ in range(2):
            told.append((farthest(tree), all_farthest(tree), nth_farthest(tree, 100),
                         nth_farthest(tree, 435), count_so_far(tree, 10 ** 6 + 3)))
            farthest(FIVE)
            count_so_far(STAR, 4)
        self.assertEqual(told[0], told[1])
        self.assertEqual(repr(tree), before)


if __name__ == "__main__":
    unittest.main()
