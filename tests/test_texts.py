"""Promise [4], and what [2] and [5] say of it: the texts of trees."""

import unittest

from shapes import all_trees, mixed_tree, row_tree, slow_wrong_row, some_trees, star_tree

from farplaces.errors import FarError, NoTree
from farplaces.trees.texts import read_tree, tree_shown

EIGHT = "abcdefgh"

# A text, and the tree that it writes.
RIGHT = (
    ("a", (("a",), ())),
    (EIGHT, ((EIGHT,), ())),
    ("a b\na b 1", (("a", "b"), (("a", "b", 1),))),
    ("a b\nb a 1000000", (("a", "b"), (("b", "a", 10 ** 6),))),
    ("b a c\nc b 10\na b 2", (("b", "a", "c"), (("c", "b", 10), ("a", "b", 2)))),
    ("z a m\nm a 5\nz m 5", (("z", "a", "m"), (("m", "a", 5), ("z", "m", 5)))),
    # Unlike in one sign, one the beginning of another.
    ("ab ac a aba\na ab 1\naba ac 2\na aba 3",
     (("ab", "ac", "a", "aba"), (("a", "ab", 1), ("aba", "ac", 2), ("a", "aba", 3)))),
    # Two parts grow before they come together.
    ("a b c d\na b 1\nd c 2\nb d 3",
     (("a", "b", "c", "d"), (("a", "b", 1), ("d", "c", 2), ("b", "d", 3)))),
)

# A text, and its first wrong row.
WRONG = (
    # The places: names that are none.
    ("", 0), (" ", 0), ("\n", 0), ("\na", 0), (" a", 0), ("a ", 0),
    ("a  b\na b 1", 0), (" a b\na b 1", 0), ("a b \na b 1", 0),
    ("abcdefghi", 0), ("a abcdefghi\na abcdefghi 1", 0),
    ("A", 0), ("aB", 0), ("Ab b\nAb b 1", 0), ("a1", 0), ("a_b", 0), ("a-b", 0),
    ("a,b\na b 1", 0), ("a;b\na b 1", 0), ("`", 0), ("{", 0), ("@", 0), ("[", 0), ("~", 0),
    # The places: names that are twice.
    ("a a", 0), ("a a\na a 1", 0), ("a b a\na b 1", 0), ("a bc d bc\na bc 1\nbc d 1", 0),
    # No three words.
    ("a\n", 1), ("a b\n", 1), ("a b\na b", 1), ("a b\na", 1), ("a b\na b 1 1", 1),
    ("a b\na b 1\n", 2), ("a b\n\na b 1", 1), ("a b\na b 1\n\n", 2), ("a b\n ", 1), ("a b\n  ", 1),
    ("a b\na  b 1", 1), ("a b\na b  1", 1), ("a b\n a b 1", 1), ("a b\na b 1 ", 1),
    ("a b\n b 1", 1), ("a b\na b ", 1), ("a b c\na b 1\nb c", 2), ("a b\na b1", 1),
    # A place that is not there.
    ("a b\na c 1", 1), ("a b\nc a 1", 1), ("a b\na B 1", 1), ("a b\nA b 1", 1),
    ("a\na b 1", 1), ("ab ac\na ac 1", 1), ("ab ac\nab aca 1", 1), ("a b c\na b 1\nb d 1", 2),
    # A length that is no number from 1 on.
    ("a b\na b 0", 1), ("a b\na b 01", 1), ("a b\na b 00", 1), ("a b\na b +1", 1), ("a b\na b -1", 1),
    ("a b\na b 1.0", 1), ("a b\na b 1_0", 1), ("a b\na b 1e3", 1), ("a b\na b 1,0", 1),
    ("a b\na b x", 1), ("a b\na b b", 1), ("a b\na b 0x1", 1), ("a b\na b 1/", 1), ("a b\na b 1:", 1),
    ("a b\n1 a b", 1), ("a b c\na b 1\nb c 0", 2),
    # A tie of two places that hang together already, or of one with itself.
    ("a\na a 1", 1), ("a b\na a 1", 1), ("a b\na b 1\na b 1", 2), ("a b\na b 1\nb a 2", 2),
    ("a b c\na b 1\nb c 1\nc a 1", 3), ("a b c\na b 1\nb c 1\na c 1", 3),
    ("a b c d\na b 1\nc d 1\nb c 1\na d 1", 4), ("a b c d\na b 1\nb c 1\na c 1", 3),
    ("a b\na b 1\nb b 1", 2),
    # Places left apart: the row behind the last one.
    ("a b", 1), ("a b c\na b 1", 2), ("a b c\nb c 1", 2), ("a b c d\na b 1\nc d 1", 3),
    # Several faults: the first row.
    ("a A\na b 0", 0), ("a b c\na b 0\na b", 1), ("a b c\na b 1\na a 1\nq b 0", 2),
    ("a b\na q 0", 1), ("a b c\na b 1\nb a 1", 2), ("a b c\na b 1\n", 2), ("a b c d\na b 1\nb c 01", 2),
    ("a a\na q 0\n", 0), ("a b c\na q 1\nb c 0", 1),
)


class Refused(unittest.TestCase):
    def refused_at(self, text):
        """The row that NoTree keeps, or None; any other refusal fails."""
        try:
            read_tree(text)
        except ValueError as refusal:
            self.assertIs(type(refusal), NoTree, text)
            self.assertIsInstance(refusal, FarError)
            return refusal.row
        return None

    def test_wrong_texts(self):
        for text, row in WRONG:
            self.assertEqual(self.refused_at(text), row, repr(text))
            self.assertEqual(self.refused_at(text), row, repr(text))

    def test_the_row_is_a_whole_number(self):
        for text, row in WRONG:
            with self.assertRaises(NoTree) as told:
                read_tree(text)
            self.assertIs(type(told.exception.row), int)

    def test_names_of_eight_letters_and_nine(self):
        self.assertIsNone(self.refused_at(EIGHT + " b\nb " + EIGHT + " 1"))
        self.assertEqual(self.refused_at(EIGHT + "i b\nb " + EIGHT + "i 1"), 0)

    def test_every_sign_in_a_name_and_a_length(self):
        for code in range(ord(" "), ord("~") + 1):
            sign = chr(code)
            small = "a" <= sign <= "z"
            if sign not in " \n":
                self.assertEqual(self.refused_at("x" + sign), None if small else 0, sign)
                self.assertEqual(self.refused_at(sign), None if small else 0, sign)
            self.assertEqual(
                self.refused_at("a b\na b 1" + sign), None if "0" <= sign <= "9" else 1, sign)
            self.assertEqual(
                self.refused_at("a b\na b " + sign), None if "1" <= sign <= "9" else 1, sign)

    def test_great_trees_with_one_fault(self):
        for tree in (row_tree(30), star_tree(30), mixed_tree(30, 5)):
            rows = tree_shown(tree).split("\n")
            for at in range(1, 30):
                self.assertEqual(self.refused_at("\n".join(rows[:at])), at)
                ties = rows[:at] + [rows[at] + "x"] + rows[at + 1:]
                self.assertEqual(self.refused_at("\n".join(ties)), at)
                one, other, _ = rows[at].split(" ")
                ties = rows + [f"{other} {one} 1"]
                self.assertEqual(self.refused_at("\n".join(ties)), 30)
                ties = rows[:at] + rows[at + 1:]
                self.assertEqual(self.refused_at("\n".join(ties)), 29)

    def test_each_text_one_sign_off(self):
        for text, _ in RIGHT:
            for at in range(len(text) + 1):
                self.compare(text[:at] + text[at + 1:])
                for sign in "abc019 \nA+":
                    self.compare(text[:at] + sign + text[at:])
                    self.compare(text[:at] + sign + text[at + 1:])

    def test_each_two_rows_changed_about(self):
        for text, _ in RIGHT:
            rows = text.split("\n")
            for at in range(len(rows)):
                for to in range(len(rows)):
                    turned = list(rows)
                    turned[at] = rows[to]
                    self.compare("\n".join(turned))
                    turned[to] = rows[at]
                    self.compare("\n".join(turned))

    def compare(self, text):
        self.assertEqual(self.refused_at(text), slow_wrong_row(text), repr(text))


class Read(unittest.TestCase):
    def test_right_texts(self):
        for text, tree in RIGHT:
            self.assertEqual(read_tree(text), tree)

    def test_kinds(self):
        for text, _ in RIGHT:
            tree = read_tree(text)
            self.assertIs(type(tree), tuple)
            places, ties = tree
            self.assertIs(type(places), tuple)
            self.assertIs(type(ties), tuple)
            self.assertEqual({type(place) for place in places}, {str})
            for tie in ties:
                self.assertIs(type(tie), tuple)
                self.assertEqual([type(part) for part in tie], [str, str, int])

    def test_places_and_ties_in_the_order_given(self):
        for places in ("a b c", "c b a", "b c a"):
            for ties in ("a b 1\nb c 2", "b c 2\na b 1", "c b 2\nb a 1"):
                tree = read_tree(places + "\n" + ties)
                self.assertEqual(tree[0], tuple(places.split(" ")))
                told = [f"{one} {other} {length}" for one, other, length in tree[1]]
                self.assertEqual("\n".join(told), ties)

    def test_asked_again_the_same(self):
        for text, tree in RIGHT:
            first = read_tree(text)
            read_tree("x y\ny x 7")
            self.assertEqual(read_tree(text), first)
            self.assertEqual(first, tree)


class Shown(unittest.TestCase):
    def test_right_trees(self):
        for text, tree in RIGHT:
            self.assertEqual(tree_shown(tree), text)
            self.assertIs(type(tree_shown(tree)), str)

    def test_lengths_in_figures(self):
        for length in (1, 9, 10, 100, 999999, 10 ** 6):
            self.assertEqual(tree_shown((("a", "b"), (("a", "b", length),))), f"a b\na b {length:d}")

    def test_there_and_back(self):
        for tree in some_trees():
            text = tree_shown(tree)
            self.assertEqual(read_tree(text), tree)
            self.assertEqual(tree_shown(read_tree(text)), text)

    def test_every_order_and_turn_of_the_ties(self):
        for places, ties in all_trees(4):
            turned = tuple([(other, one, length) for one, other, length in ties])
            for told in (ties, turned, ties[::-1], turned[1:] + ties[:1]):
                for order in (places, places[::-1], tuple(sorted(places))):
                    self.assertEqual(read_tree(tree_shown((order, told))), (order, told))

    def test_what_is_handed_in_stays(self):
        tree = (("b", "a"), (("a", "b", 3),))
        before = repr(tree)
        self.assertEqual(tree_shown(tree), tree_shown(tree))
        self.assertEqual(repr(tree), before)


if __name__ == "__main__":
    unittest.main()
