"""Promise [6], and what [2] and [5] say of it: ways and their lengths."""

import unittest

from shapes import mixed_tree, names, row_tree, slow_way, some_trees, star_tree

from farplaces.errors import FarError, NoPlace
from farplaces.trees.texts import read_tree, tree_shown
from farplaces.trees.ways import length_between, lengths_from, way_between

ALONE = (("a",), ())
#  d -5- b -1- a -10- e, and c on b by 10 ** 6
FIVE = (
    ("e", "c", "a", "d", "b"),
    (("c", "b", 10 ** 6), ("a", "b", 1), ("b", "d", 5), ("a", "e", 10)),
)
# Names unlike in one sign, one the beginning of another.
NEAR = (
    ("aa", "a", "ab", "aab"),
    (("a", "aab", 3), ("ab", "aa", 4), ("aa", "a", 2)),
)


class Ways(unittest.TestCase):
    def test_ways_worked_out_by_hand(self):
        self.assertEqual(way_between(FIVE, "d", "e"), ("d", "b", "a", "e"))
        self.assertEqual(way_between(FIVE, "e", "d"), ("e", "a", "b", "d"))
        self.assertEqual(way_between(FIVE, "c", "d"), ("c", "b", "d"))
        self.assertEqual(way_between(FIVE, "b", "a"), ("b", "a"))
        self.assertEqual(way_between(NEAR, "ab", "aab"), ("ab", "aa", "a", "aab"))

    def test_lengths_worked_out_by_hand(self):
        self.assertEqual(length_between(FIVE, "d", "e"), 16)
        self.assertEqual(length_between(FIVE, "e", "d"), 16)
        self.assertEqual(length_between(FIVE, "c", "d"), 10 ** 6 + 5)
        self.assertEqual(length_between(FIVE, "b", "a"), 1)
        self.assertEqual(length_between(NEAR, "ab", "aab"), 9)

    def test_lengths_to_all_are_in_the_order_of_places(self):
        self.assertEqual(lengths_from(FIVE, "b"), (11, 10 ** 6, 1, 5, 0))
        self.assertEqual(lengths_from(FIVE, "e"), (0, 10 ** 6 + 11, 10, 16, 11))
        self.assertEqual(lengths_from(NEAR, "aa"), (0, 2, 4, 5))
        turned = (FIVE[0][::-1], FIVE[1])
        self.assertEqual(lengths_from(turned, "b"), (0, 5, 1, 10 ** 6, 11))

    def test_a_place_alone(self):
        self.assertEqual(way_between(ALONE, "a", "a"), ("a",))
        self.assertEqual(length_between(ALONE, "a", "a"), 0)
        self.assertEqual(lengths_from(ALONE, "a"), (0,))

    def test_from_a_place_to_itself(self):
        for tree in (FIVE, NEAR, row_tree(30), star_tree(30), mixed_tree(60, 1)):
            for place in tree[0]:
                self.assertEqual(way_between(tree, place, place), (place,))
                self.assertEqual(length_between(tree, place, place), 0)

    def test_between_any_two(self):
        for tree in some_trees():
            places = tree[0][:12]
            for one in places:
                for other in places:
                    way, length = slow_way(tree, one, other)
                    self.assertEqual(way_between(tree, one, other), way)
                    self.assertEqual(length_between(tree, one, other), length)

    def test_to_all(self):
        for tree in some_trees():
            for place in tree[0][-12:]:
                told = tuple([slow_way(tree, place, other)[1] for other in tree[0]])
                self.assertEqual(lengths_from(tree, place), told)

    def test_from_end_to_end_of_a_row(self):
        for many in (30, 60):
            places = names(many)
            ties = tuple([(places[k], places[k - 1], 10 ** 6) for k in range(1, many)])
            tree = (places, ties)
            self.assertEqual(way_between(tree, places[0], places[-1]), places)
            self.assertEqual(way_between(tree, places[-1], places[0]), places[::-1])
            self.assertEqual(length_between(tree, places[0], places[-1]), (many - 1) * 10 ** 6)

    def test_however_the_ties_are_told(self):
        places, ties = FIVE
        turned = tuple([(other, one, length) for one, other, length in ties])
        for told in (turned, ties[::-1], turned[2:] + ties[:2]):
            for one in places:
                self.assertEqual(lengths_from((places, told), one), lengths_from(FIVE, one))
                for other in places:
                    self.assertEqual(
                        way_between((places, told), one, other), way_between(FIVE, one, other))

    def test_trees_that_were_read(self):
        tree = read_tree(tree_shown(FIVE))
        self.assertEqual(way_between(tree, "d", "e"), ("d", "b", "a", "e"))
        self.assertEqual(lengths_from(tree, "b"), (11, 10 ** 6, 1, 5, 0))


class Kinds(unittest.TestCase):
    def test_kinds(self):
        for tree in (ALONE, FIVE, star_tree(30)):
            one, other = tree[0][0], tree[0][-1]
            way = way_between(tree, one, other)
            self.assertIs(type(way), tuple)
            self.assertEqual({type(place) for place in way}, {str})
            self.assertIs(type(length_between(tree, one, other)), int)
            lengths = lengths_from(tree, one)
            self.assertIs(type(lengths), tuple)
            self.assertEqual({type(length) for length in lengths}, {int})

    def test_what_is_handed_in_stays_and_the_same_is_told_again(self):
        tree = mixed_tree(30, 3)
        before = repr(tree)
        one, other = tree[0][4], tree[0][20]
        first = (way_between(tree, one, other), length_between(tree, one, other),
                 lengths_from(tree, one))
        lengths_from(FIVE, "a")
        again = (way_between(tree, one, other), length_between(tree, one, other),
                 lengths_from(tree, one))
        self.assertEqual(first, again)
        self.assertEqual(repr(tree), before)


class Refused(unittest.TestCase):
    def check_refused(self, name, ask, *told):
        """It is refused with NoPlace for that name, and with nothing else."""
        for _ in range(2):
            with self.assertRaises(ValueError) as caught:
                ask(*told)
            self.assertIs(type(caught.exception), NoPlace)
            self.assertIsInstance(caught.exception, FarError)
            self.assertEqual(caught.exception.name, name)

    def test_no_place_of_two(self):
        for ask in (way_between, length_between):
            self.check_refused("x", ask, FIVE, "x", "a")
            self.check_refused("x", ask, FIVE, "a", "x")
            self.check_refused("x", ask, FIVE, "x", "y")
            self.check_refused("y", ask, FIVE, "y", "x")
            self.check_refused("x", ask, FIVE, "x", "x")
            self.check_refused("b", ask, ALONE, "a", "b")
            self.check_refused("b", ask, ALONE, "b", "a")

    def test_no_place_for_the_lengths_to_all(self):
        self.check_refused("x", lengths_from, FIVE, "x")
        self.check_refused("b", lengths_from, ALONE, "b")

    def test_names_near_to_those_that_are_there(self):
        for name in ("b", "aaa", "aabb", "ba"):
            self.check_refused(name, way_between, NEAR, name, "a")
            self.check_refused(name, length_between, NEAR, "a", name)
            self.check_refused(name, lengths_from, NEAR, name)
        for name in ("a", "ab", "bc"):
            tree = (("abc", "c"), (("c", "abc", 1),))
            self.check_refused(name, way_between, tree, name, "c")
            self.check_refused(name, length_between, tree, "c", name)
            self.check_refused(name, lengths_from, tree, name)

    def test_a_refusal_changes_nothing_for_later_asking(self):
        before = repr(FIVE)
        self.check_refused("x", way_between, FIVE, "x", "a")
        self.assertEqual(repr(FIVE), before)
        self.assertEqual(way_between(FIVE, "d", "e"), ("d", "b", "a", "e"))


if __name__ == "__main__":
    unittest.main()
