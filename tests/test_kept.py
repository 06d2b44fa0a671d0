"""Promise [19], and what [2], [3] and [5] say of it: kept trees."""

import random
import unittest

from shapes import Plain, all_trees, mixed_tree, row_tree, slow_lengths, slow_pairs, some_trees
from shapes import star_tree

from farplaces.errors import FarError, NoJoin, NoPlace
from farplaces.far.middle import middle_point
from farplaces.far.pairs import all_farthest, farthest
from farplaces.joined.elsewhere import best_change
from farplaces.joined.two import joined
from farplaces.kept import KeptTree
from farplaces.trees.leaves import peeled
from farplaces.trees.texts import read_tree, tree_shown

ALONE = (("a",), ())
# a -1- b -2- c, and d on b by 4
FOUR = (("d", "a", "b", "c"), (("a", "b", 1), ("c", "b", 2), ("b", "d", 4)))


def named(number):
    """A name for a number below 676."""
    return "abcdefghijklmnopqrstuvwxyz"[number // 26] + "abcdefghijklmnopqrstuvwxyz"[number % 26]


class Checks(unittest.TestCase):
    def check_told(self, kept, tree):
        """The kept tree tells that tree, and what one made afresh tells."""
        self.assertEqual(kept.tree_now(), tree)
        self.assertEqual(kept.farthest_now(), farthest(tree))
        self.assertEqual(kept.middle_now(), middle_point(tree))
        fresh = KeptTree(tree)
        self.assertEqual(kept.farthest_now(), fresh.farthest_now())
        self.assertEqual(kept.middle_now(), fresh.middle_now())
        lengths = [pair[0] for pair in slow_pairs(tree)]
        self.assertEqual(kept.farthest_now()[0], max([0, *lengths]))

    def check_no_place(self, name, kept, ask, *told):
        before = repr((kept.tree_now(), kept.farthest_now(), kept.middle_now()))
        for _ in range(2):
            with self.assertRaises(ValueError) as caught:
                ask(*told)
            self.assertIs(type(caught.exception), NoPlace)
            self.assertIsInstance(caught.exception, FarError)
            self.assertEqual(caught.exception.name, name)
        self.assertEqual(repr((kept.tree_now(), kept.farthest_now(), kept.middle_now())), before)

    def check_no_join(self, kept, ask, *told):
        before = repr((kept.tree_now(), kept.farthest_now(), kept.middle_now()))
        for _ in range(2):
            with self.assertRaises(ValueError) as caught:
                ask(*told)
            self.assertIs(type(caught.exception), NoJoin)
            self.assertIsInstance(caught.exception, FarError)
            self.assertIs(type(str(caught.exception)), str)
        self.assertEqual(repr((kept.tree_now(), kept.farthest_now(), kept.middle_now())), before)


class Beginning(Checks):
    def test_it_begins_as_the_tree(self):
        for tree in [*some_trees(), ALONE, FOUR]:
            self.check_told(KeptTree(tree), tree)

    def test_worked_out_by_hand(self):
        kept = KeptTree(FOUR)
        self.assertEqual(kept.farthest_now(), (6, "d", "c"))
        self.assertEqual(kept.middle_now(), (("d", "b", (3, 1)), (3, 1)))
        kept = KeptTree(ALONE)
        self.assertEqual(kept.farthest_now(), (0, "a", "a"))
        self.assertEqual(kept.middle_now(), (("a", "a", (0, 1)), (0, 1)))


class PutIn(Checks):
    def test_new_ones_behind_as_they_came(self):
        kept = KeptTree(FOUR)
        self.assertIsNone(kept.put_leaf("z", "b", 9))
        self.assertIsNone(kept.put_leaf("e", "z", 1))
        self.check_told(kept, (
            ("d", "a", "b", "c", "z", "e"),
            (("a", "b", 1), ("c", "b", 2), ("b", "d", 4), ("b", "z", 9), ("z", "e", 1))))
        self.assertEqual(kept.farthest_now(), (14, "d", "e"))
        self.assertEqual(kept.middle_now(), (("b", "z", (3, 1)), (7, 1)))

    def test_on_a_place_alone(self):
        for length in (1, 2, 10 ** 6):
            kept = KeptTree(ALONE)
            kept.put_leaf("b", "a", length)
            self.check_told(kept, (("a", "b"), (("a", "b", length),)))

    def test_up_to_thirty_places(self):
        for shape in (row_tree, star_tree):
            kept = KeptTree(shape(29))
            kept.put_leaf("thelast", shape(29)[0][28], 5)
            self.check_told(kept, (shape(29)[0] + ("thelast",),
                                   shape(29)[1] + ((shape(29)[0][28], "thelast", 5),)))

    def test_no_place(self):
        kept = KeptTree(FOUR)
        self.check_no_place("q", kept, kept.put_leaf, "e", "q", 1)
        self.check_no_place("e", kept, kept.put_leaf, "e", "e", 1)
        self.check_no_place("ab", kept, kept.put_leaf, "e", "ab", 1)
        kept = KeptTree(ALONE)
        self.check_no_place("b", kept, kept.put_leaf, "c", "b", 1)

    def test_no_place_ahead_of_no_join(self):
        kept = KeptTree(FOUR)
        self.check_no_place("q", kept, kept.put_leaf, "a", "q", 1)
        self.check_no_place("q", kept, kept.put_leaf, "e", "q", 0)
        self.check_no_place("q", kept, kept.put_leaf, "a", "q", -1)

    def test_a_name_that_is_there(self):
        kept = KeptTree(FOUR)
        for name in FOUR[0]:
            self.check_no_join(kept, kept.put_leaf, name, "a", 1)
            self.check_no_join(kept, kept.put_leaf, name, "b", 0)
        kept.put_leaf("e", "a", 1)
        self.check_no_join(kept, kept.put_leaf, "e", "a", 1)
        self.check_no_join(kept, kept.put_leaf, "e", "e", 1)

    def test_a_length_below_1(self):
        kept = KeptTree(FOUR)
        for length in (0, -1, -10 ** 6):
            self.check_no_join(kept, kept.put_leaf, "e", "a", length)
        kept.put_leaf("e", "a", 1)
        self.assertEqual(kept.tree_now()[1][-1], ("a", "e", 1))


class TakenOut(Checks):
    def test_it_and_its_tie_are_gone(self):
        kept = KeptTree(FOUR)
        self.assertIsNone(kept.take_leaf("c"))
        self.check_told(kept, (("d", "a", "b"), (("a", "b", 1), ("b", "d", 4))))
        kept.take_leaf("a")
        self.check_told(kept, (("d", "b"), (("b", "d", 4),)))

    def test_either_of_two(self):
        for name, left in (("a", "b"), ("b", "a")):
            kept = KeptTree((("a", "b"), (("b", "a", 3),)))
            kept.take_leaf(name)
            self.check_told(kept, ((left,), ()))
            self.check_no_join(kept, kept.take_leaf, left)
            kept.put_leaf(name, left, 8)
            self.check_told(kept, ((left, name), ((left, name, 8),)))

    def test_what_was_no_leaf_may_become_one(self):
        kept = KeptTree((("a", "b", "c"), (("a", "b", 1), ("b", "c", 2))))
        self.check_no_join(kept, kept.take_leaf, "b")
        kept.take_leaf("a")
        kept.take_leaf("b")
        self.check_told(kept, (("c",), ()))

    def test_put_in_again_it_comes_behind(self):
        kept = KeptTree(FOUR)
        kept.take_leaf("d")
        kept.put_leaf("d", "b", 4)
        self.check_told(kept, (("a", "b", "c", "d"), (("a", "b", 1), ("c", "b", 2), ("b", "d", 4))))
        kept.take_leaf("a")
        kept.put_leaf("a", "c", 1)
        self.check_told(kept, (("b", "c", "d", "a"), (("c", "b", 2), ("b", "d", 4), ("c", "a", 1))))

    def test_no_place(self):
        kept = KeptTree(FOUR)
        for name in ("q", "e", "ab"):
            self.check_no_place(name, kept, kept.take_leaf, name)
        kept.take_leaf("d")
        self.check_no_place("d", kept, kept.take_leaf, "d")
        kept = KeptTree(ALONE)
        self.check_no_place("b", kept, kept.take_leaf, "b")

    def test_no_leaf(self):
        kept = KeptTree(FOUR)
        self.check_no_join(kept, kept.take_leaf, "b")
        kept.put_leaf("e", "a", 1)
        self.check_no_join(kept, kept.take_leaf, "a")
        for many in (3, 30):
            kept = KeptTree(row_tree(many))
            for place in row_tree(many)[0][1:-1]:
                self.check_no_join(kept, kept.take_leaf, place)
            kept = KeptTree(star_tree(many))
            self.check_no_join(kept, kept.take_leaf, star_tree(many)[0][-1])

    def test_the_only_place_left(self):
        kept = KeptTree(ALONE)
        self.check_no_join(kept, kept.take_leaf, "a")
        kept.put_leaf("b", "a", 1)
        kept.take_leaf("a")
        self.check_no_join(kept, kept.take_leaf, "b")
        self.check_no_place("a", kept, kept.take_leaf, "a")


class Lengthened(Checks):
    def test_the_tie_stays_where_it_is_and_as_it_is_told(self):
        for pair in (("c", "b"), ("b", "c")):
            kept = KeptTree(FOUR)
            self.assertIsNone(kept.lengthen(*pair, 7))
            self.check_told(kept, (FOUR[0], (("a", "b", 1), ("c", "b", 7), ("b", "d", 4))))
            kept.lengthen(*pair, 1)
            self.check_told(kept, (FOUR[0], (("a", "b", 1), ("c", "b", 1), ("b", "d", 4))))

    def test_every_tie_either_way_about(self):
        for tree in [*all_trees(4), mixed_tree(30, 2)]:
            for number, (one, other, length) in enumerate(tree[1]):
                for pair in ((one, other), (other, one)):
                    kept = KeptTree(tree)
                    kept.lengthen(*pair, length + 3)
                    ties = list(tree[1])
                    ties[number] = (one, other, length + 3)
                    self.assertEqual(kept.tree_now(), (tree[0], tuple(ties)))
                    self.assertEqual(kept.farthest_now(), farthest((tree[0], tuple(ties))))

    def test_lengths(self):
        kept = KeptTree(FOUR)
        for length in (1, 2, 4, 10 ** 6, 1):
            kept.lengthen("d", "b", length)
            self.check_told(kept, (FOUR[0], (("a", "b", 1), ("c", "b", 2), ("b", "d", length))))

    def test_a_leaf_that_was_put_in(self):
        for pair in (("a", "e"), ("e", "a")):
            kept = KeptTree(FOUR)
            kept.put_leaf("e", "a", 5)
            kept.lengthen(*pair, 6)
            self.assertEqual(kept.tree_now()[1][-1], ("a", "e", 6))

    def test_no_place_the_one_ahead(self):
        kept = KeptTree(FOUR)
        self.check_no_place("q", kept, kept.lengthen, "q", "a", 1)
        self.check_no_place("q", kept, kept.lengthen, "a", "q", 1)
        self.check_no_place("q", kept, kept.lengthen, "q", "r", 1)
        self.check_no_place("r", kept, kept.lengthen, "r", "q", 1)
        self.check_no_place("q", kept, kept.lengthen, "q", "q", 1)

    def test_no_place_ahead_of_no_join(self):
        kept = KeptTree(FOUR)
        self.check_no_place("q", kept, kept.lengthen, "q", "a", 0)
        self.check_no_place("q", kept, kept.lengthen, "a", "q", -1)
        kept.take_leaf("d")
        self.check_no_place("d", kept, kept.lengthen, "d", "b", 0)

    def test_no_tie(self):
        kept = KeptTree(FOUR)
        for pair in (("a", "c"), ("c", "a"), ("a", "d"), ("a", "a"), ("b", "b")):
            self.check_no_join(kept, kept.lengthen, *pair, 1)
            self.check_no_join(kept, kept.lengthen, *pair, 0)
        kept = KeptTree(ALONE)
        self.check_no_join(kept, kept.lengthen, "a", "a", 1)

    def test_a_length_below_1(self):
        kept = KeptTree(FOUR)
        for length in (0, -1, -10 ** 6):
            self.check_no_join(kept, kept.lengthen, "a", "b", length)
            self.check_no_join(kept, kept.lengthen, "b", "c", length)


class ManyDeeds(Checks):
    def told_of(self, deed, *told):
        try:
            self.assertIsNone(deed(*told))
        except NoPlace as refused:
            return ("NoPlace", refused.name)
        except NoJoin:
            return ("NoJoin",)
        return None

    def drawn(self, chance, places):
        """A deed's name and what it is asked with, right or wrong."""
        def place():
            return chance.choice([*places, *places, named(chance.randrange(676))])

        length = chance.choice([1, 1, 2, 3, 5, 7, 10 ** 6, 0, -1])
        kind = chance.choice(["put_leaf", "put_leaf", "take_leaf", "lengthen"])
        if kind == "put_leaf":
            name = place() if chance.random() < 0.1 else named(chance.randrange(676))
            return kind, (name, place(), length)
        if kind == "take_leaf":
            return kind, (place(),)
        return kind, (place(), place(), length)

    def test_drawn_deeds(self):
        for seed, tree in enumerate((ALONE, FOUR, row_tree(5), star_tree(12), mixed_tree(30, 3),
                                     mixed_tree(20, 6), (("b", "a"), (("a", "b", 2),)))):
            chance = random.Random(seed)
            kept, plain = KeptTree(tree), Plain(tree)
            refused = []
            for _ in range(300):
                kind, told = self.drawn(chance, plain.places)
                if kind == "put_leaf" and len(plain.places) >= 30:
                    kind, told = "take_leaf", (told[1],)
                refused.append(self.told_of(getattr(kept, kind), *told))
                self.assertEqual(refused[-1], getattr(plain, kind)(*told))
                self.assertEqual(kept.tree_now(), plain.tree())
                if refused[-1] is None:
                    self.check_told(kept, plain.tree())
            self.assertGreater(refused.count(None), 40)
            self.assertGreater(refused.count(("NoJoin",)), 20)

    def test_every_tie_is_lengthened_by_drawn_pairs(self):
        chance = random.Random(9)
        tree = mixed_tree(30, 5)
        kept, plain = KeptTree(tree), Plain(tree)
        for k in range(120):
            one, other, _ = chance.choice(plain.ties)
            if k % 2:
                one, other = other, one
            length = chance.choice([1, 2, 3, 10 ** 6])
            self.assertIsNone(kept.lengthen(one, other, length))
            plain.lengthen(one, other, length)
            self.check_told(kept, plain.tree())


class Kinds(Checks):
    def test_kinds(self):
        kept = KeptTree(FOUR)
        kept.put_leaf("e", "a", 5)
        kept.lengthen("a", "b", 6)
        kept.take_leaf("c")
        tree = kept.tree_now()
        self.assertEqual([type(part) for part in (tree, *tree)], [tuple, tuple, tuple])
        for tie in tree[1]:
            self.assertIs(type(tie), tuple)
            self.assertEqual([type(part) for part in tie], [str, str, int])
        self.assertEqual([type(part) for part in kept.farthest_now()], [int, str, str])
        point, half = kept.middle_now()
        self.assertEqual([type(part) for part in point], [str, str, tuple])
        self.assertEqual([type(part) for part in (*point[2], *half)], [int, int, int, int])

    def test_each_listed_method_stands_in_the_class_itself(self):
        for name in ("put_leaf", "take_leaf", "lengthen", "tree_now", "farthest_now", "middle_now"):
            self.assertIn(name, vars(KeptTree))

    def test_what_was_handed_in_stays(self):
        tree = mixed_tree(20, 3)
        before = repr(tree)
        kept = KeptTree(tree)
        kept.put_leaf("newone", tree[0][3], 5)
        kept.lengthen(tree[1][0][0], tree[1][0][1], 77)
        kept.take_leaf("newone")
        self.assertEqual(repr(tree), before)
        self.assertNotEqual(kept.tree_now(), tree)

    def test_what_is_told_stays_as_it_was_told(self):
        kept = KeptTree(FOUR)
        told = [(kept.tree_now(), kept.farthest_now(), kept.middle_now())]
        before = [repr(told[-1])]
        for deed in ((kept.put_leaf, "e", "d", 9), (kept.lengthen, "a", "b", 50),
                     (kept.take_leaf, "e"), (kept.take_leaf, "a"), (kept.take_leaf, "c")):
            deed[0](*deed[1:])
            told.append((kept.tree_now(), kept.farthest_now(), kept.middle_now()))
            before.append(repr(told[-1]))
        self.assertEqual([repr(some) for some in told], before)
        self.assertEqual(len(set(before)), 6)

    def test_the_same_asked_again_is_told_again(self):
        kept = KeptTree(mixed_tree(30, 1))
        first = (kept.tree_now(), kept.farthest_now(), kept.middle_now())
        for _ in range(50):
            self.assertEqual((kept.tree_now(), kept.farthest_now(), kept.middle_now()), first)

    def test_two_beside_one_another(self):
        first, second = KeptTree(FOUR), KeptTree(FOUR)
        first.put_leaf("e", "d", 9)
        second.take_leaf("d")
        self.assertEqual(len(first.tree_now()[0]), 5)
        self.assertEqual(len(second.tree_now()[0]), 3)
        self.assertEqual(KeptTree(FOUR).tree_now(), FOUR)
        third = KeptTree(first.tree_now())
        third.take_leaf("e")
        self.assertEqual(first.farthest_now(), (15, "c", "e"))

    def test_what_is_told_may_be_handed_on(self):
        kept = KeptTree(read_tree(tree_shown(FOUR)))
        kept.put_leaf("e", "d", 9)
        tree = kept.tree_now()
        self.assertEqual(read_tree(tree_shown(tree)), tree)
        self.assertEqual(all_farthest(tree), (("c", "e"),))
        self.assertEqual(best_change(tree)[0], 13)
        left, right = row_tree(30), mixed_tree(30, 4)
        right = (tuple(["v" + name[:7] for name in right[0]]),
                 tuple([("v" + one[:7], "v" + other[:7], length) for one, other, length in right[1]]))
        tree = joined(left, right, left[0][-1], right[0][0], 3)
        kept = KeptTree(tree)
        self.assertEqual(kept.farthest_now()[0], max(slow_lengths(tree).values()))
        self.assertEqual(len(tree[0]), 60)
        for part in peeled(tree):
            self.check_told(KeptTree(part), part)


if __name__ == "__main__":
    unittest.main()
