"""Promise [20], and what [2], [3] and [5] say of it: the desk."""

import random
import re
import unittest

from shapes import Plain, mixed_tree, names, row_tree, slow_wrong_row, star_tree, with_lengths

from farplaces.errors import FarError, NoAsk, NoJoin, NoPlace, NoTree
from farplaces.far.middle import middle_point
from farplaces.far.pairs import all_farthest, farthest, nth_farthest
from farplaces.far.sums import least_sums, sums_from, total_of
from farplaces.joined.elsewhere import best_change
from farplaces.joined.two import best_join
from farplaces.trees.texts import read_tree, tree_shown
from farplaces.trees.ways import length_between, way_between
from farplaces.whole import Desk

EVERY = ("show", "far", "pairs", "nth 0", "nth 1", "middle", "sums", "least", "total", "swap")
NAME, LENGTH, SO = "[a-z]{1,8}", "[1-9][0-9]{0,6}", "(?:0|[1-9][0-9]{0,6})"
FOUR = "tree d a b c;a b 1;c b 2;b d 4"
# Words that are no numbers; 0 is none where a length is asked for.
NO_NUMBERS = ("", "00", "01", "007", "+1", "-1", "-0", "1.0", "1,0", "1_0", "1e3", "0x1", "x", "a",
              "1a", "a1", "1;", ";", "1/2", "1\n", "\n1", "1000001", "1000010", "9999999", "10000000",
              "0000001", "9" * 1000, "9" * 5000)
NO_NAMES = ("", "A", "aB", "Ab", "a1", "1", "a_b", "a-b", "a;", ";", "a\n", "\na", "\n", "abcdefghi",
            "a.b", "~", "`", "{", "@", "[", "?")


def text_of(tree):
    """The tree as TEXT."""
    return tree_shown(tree).replace("\n", ";")


def other_names(tree, sign="v"):
    """The same tree with names of another beginning."""
    turned = {place: sign + "abcdefghijklmnopqrstuvwxyz"[k % 26] + "xyz"[k // 26]
              for k, place in enumerate(tree[0])}
    return (tuple([turned[place] for place in tree[0]]),
            tuple([(turned[one], turned[other], length) for one, other, length in tree[1]]))


def words(told):
    return "none" if told is None else " ".join([str(part) for part in told])


def fraction(told):
    return str(told[0]) if told[1] == 1 else f"{told[0]}/{told[1]}"


class Slow:
    """What a desk does, told again by patterns and by asking the parts."""

    def __init__(self):
        self.kept = Plain((("a",), ()))

    def ask(self, line):
        """The rows, or a refusal as a tuple."""
        found = re.fullmatch("tree (.*)", line, re.DOTALL)
        if found:
            tree = self.read(found[1], 0)
            if isinstance(tree[0], str):
                return tree
            self.kept = Plain(tree)
            return []
        found = re.fullmatch(f"best ({LENGTH}) (.*)", line, re.DOTALL)
        if found:
            return self.best(int(found[1]), found[2])
        deed = self.deed(line)
        return self.told(line) if deed is None else deed

    def read(self, text, beside):
        rows = text.replace("\n", "!").replace(";", "\n")
        wrong = slow_wrong_row(rows)
        if wrong is not None:
            return ("NoTree", wrong)
        tree = read_tree(rows)
        return ("NoAsk",) if beside + len(tree[0]) > 30 else tree

    def best(self, length, text):
        tree = self.kept.tree()
        if length > 10 ** 6:
            return ("NoAsk",)
        other = self.read(text, len(tree[0]))
        if isinstance(other[0], str):
            return other
        if set(tree[0]) & set(other[0]):
            return ("NoJoin",)
        return [words(best_join(tree, other, length))]

    def deed(self, line):
        """What a line tells that changes the tree, or None of another line."""
        found = re.fullmatch(f"put ({NAME}) ({NAME}) ({LENGTH})", line)
        if found:
            if int(found[3]) > 10 ** 6 or len(self.kept.places) >= 30:
                return ("NoAsk",)
            return self.kept.put_leaf(found[1], found[2], int(found[3])) or []
        found = re.fullmatch(f"off ({NAME})", line)
        if found:
            return self.kept.take_leaf(found[1]) or []
        found = re.fullmatch(f"long ({NAME}) ({NAME}) ({LENGTH})", line)
        if found:
            if int(found[3]) > 10 ** 6:
                return ("NoAsk",)
            return self.kept.lengthen(found[1], found[2], int(found[3])) or []
        return None

    def told(self, line):
        tree = self.kept.tree()
        found = re.fullmatch(f"(way|long) ({NAME}) ({NAME})", line)
        if found:
            refused = self.kept.missing(found[2], found[3])
            if refused:
                return refused
            if found[1] == "way":
                return [words(way_between(tree, found[2], found[3]))]
            return [str(length_between(tree, found[2], found[3]))]
        found = re.fullmatch(f"nth ({SO})", line)
        if found:
            return [words(nth_farthest(tree, int(found[1])))] if int(found[1]) <= 10 ** 6 else ("NoAsk",)
        ask = {
            "show": lambda: tree_shown(tree).split("\n"),
            "far": lambda: [words(farthest(tree))],
            "pairs": lambda: [words(pair) for pair in all_farthest(tree)],
            "middle": lambda: self.middle(tree),
            "sums": lambda: [words(sums_from(tree))],
            "least": lambda: [words(least_sums(tree))],
            "total": lambda: [str(total_of(tree))],
            "swap": lambda: [words(best_change(tree))],
        }.get(line)
        return ask() if ask else ("NoAsk",)

    def middle(self, tree):
        (one, other, part), half = middle_point(tree)
        return [one if one == other else f"{one} {other} {fraction(part)}", fraction(half)]


def refusal(desk, line):
    """The rows that are told, or the refusal as a tuple."""
    try:
        return desk.ask(line)
    except NoTree as refused:
        return ("NoTree", refused.row)
    except NoPlace as refused:
        return ("NoPlace", refused.name)
    except NoJoin:
        return ("NoJoin",)
    except NoAsk:
        return ("NoAsk",)


def desk_of(*lines):
    desk = Desk()
    for line in lines:
        assert desk.ask(line) == [], line
    return desk


class Checks(unittest.TestCase):
    def state(self, desk):
        return [desk.ask(line) for line in EVERY]

    def check_refused(self, desk, told, line):
        """It is refused so, again and again, and nothing is changed."""
        before = self.state(desk)
        for _ in range(2):
            with self.assertRaises(ValueError) as caught:
                desk.ask(line)
            self.assertIsInstance(caught.exception, FarError)
            self.assertIs(type(caught.exception),
                          {"NoAsk": NoAsk, "NoTree": NoTree, "NoPlace": NoPlace, "NoJoin": NoJoin}[told[0]])
            self.assertIs(type(str(caught.exception)), str)
            self.assertEqual(refusal(desk, line), told)
        self.assertEqual(self.state(desk), before)

    def check_no_ask(self, desk, *lines):
        for line in lines:
            with self.subTest(line=line[:60]):
                self.check_refused(desk, ("NoAsk",), line)


class AtFirst(Checks):
    def test_one_place_a(self):
        desk = Desk()
        for line, told in (("show", ["a"]), ("far", ["0 a a"]), ("pairs", []), ("nth 0", ["none"]),
                           ("middle", ["a", "0"]), ("sums", ["0"]), ("least", ["a"]),
                           ("total", ["0"]), ("swap", ["none"]), ("way a a", ["a"]),
                           ("long a a", ["0"]), ("best 5 b", ["5 a b"])):
            self.assertEqual(desk.ask(line), told)

    def test_refused_at_first(self):
        desk = Desk()
        self.check_refused(desk, ("NoJoin",), "off a")
        self.check_refused(desk, ("NoPlace", "b"), "off b")
        self.check_refused(desk, ("NoPlace", "b"), "put c b 1")
        self.check_refused(desk, ("NoJoin",), "put a a 1")
        self.check_refused(desk, ("NoJoin",), "long a a 1")
        self.check_refused(desk, ("NoPlace", "b"), "way a b")


class Told(Checks):
    def test_of_four_worked_out_by_hand(self):
        #  a -1- b -2- c, and d on b by 4
        desk = desk_of(FOUR)
        for line, told in (
            ("show", ["d a b c", "a b 1", "c b 2", "b d 4"]),
            ("way d c", ["d b c"]), ("way c d", ["c b d"]), ("way b b", ["b"]),
            ("long d c", ["6"]), ("long b b", ["0"]), ("long a b", ["1"]),
            ("far", ["6 d c"]), ("pairs", ["d c"]),
            ("nth 0", ["6 d c"]), ("nth 1", ["5 d a"]), ("nth 2", ["4 d b"]), ("nth 3", ["3 a c"]),
            ("nth 4", ["2 b c"]), ("nth 5", ["1 a b"]), ("nth 6", ["none"]), ("nth 1000000", ["none"]),
            ("middle", ["d b 3", "3"]),
            ("sums", ["15 9 7 11"]), ("least", ["b"]), ("total", ["21"]),
            ("best 5 z;", ("NoTree", 1)), ("best 5 z", ["9 b z"]),
            ("best 1000000 y z;z y 3", ["1000007 b y"]),
            ("swap", ["6 0 a b"]),
        ):
            with self.subTest(line=line):
                self.assertEqual(refusal(desk, line), told)

    def test_several_rows(self):
        desk = desk_of("tree b m c a;a m 2;m c 2;m b 2")
        self.assertEqual(desk.ask("pairs"), ["b c", "b a", "c a"])
        self.assertEqual(desk.ask("show"), ["b m c a", "a m 2", "m c 2", "m b 2"])
        self.assertEqual(desk.ask("middle"), ["m", "2"])
        self.assertEqual(desk.ask("sums"), ["10 6 10 10"])
        self.assertEqual(desk.ask("nth 2"), ["4 c a"])
        desk = desk_of("tree d a b c;b a 3;b c 4;c d 3")
        self.assertEqual(desk.ask("least"), ["b c"])
        self.assertEqual(desk.ask("middle"), ["b c 2", "5"])

    def test_fractions(self):
        for length, told in ((1, ["a b 1/2", "1/2"]), (2, ["a b 1", "1"]), (7, ["a b 7/2", "7/2"]),
                             (10 ** 6, ["a b 500000", "500000"]), (999999, ["a b 999999/2", "999999/2"])):
            self.assertEqual(desk_of(f"tree a b;b a {length}").ask("middle"), told)
        self.assertEqual(desk_of("tree a b c;a b 3;b c 4").ask("middle"), ["b c 1/2", "7/2"])
        self.assertEqual(desk_of("tree a b c;a b 1;b c 4").ask("middle"), ["b c 3/2", "5/2"])
        self.assertEqual(desk_of("tree a b c;a b 3;b c 5").ask("middle"), ["b c 1", "4"])
        self.assertEqual(desk_of("tree a b c;a b 3;c b 3").ask("middle"), ["b", "3"])
        self.assertEqual(desk_of("tree c b a;a b 3;b c 4").ask("middle"), ["c b 7/2", "7/2"])

    def test_best(self):
        desk = desk_of("tree c a b;b a 3;a c 5")
        self.assertEqual(desk.ask("best 9 z x;x z 4"), ["18 a z"])
        self.assertEqual(desk.ask("best 1 bx"), ["8 a bx"])
        self.assertEqual(desk.ask("best 1000000 z"), ["1000005 a z"])
        self.assertEqual(desk.ask("show"), ["c a b", "b a 3", "a c 5"])

    def test_all_kinds_of_trees_against_the_parts(self):
        trees = [row_tree(2), row_tree(3), row_tree(30), star_tree(30), mixed_tree(30, 4),
                 with_lengths(star_tree(12), (1,)), with_lengths(mixed_tree(20, 7), (1, 2)),
                 (("abcdefgh",), ())]
        for tree in trees:
            desk, slow = Desk(), Slow()
            places = tree[0]
            for line in (f"tree {text_of(tree)}", *EVERY, "nth 7", "nth 434", "nth 435", "nth 1000000",
                         f"way {places[0]} {places[-1]}", f"way {places[-1]} {places[0]}",
                         f"long {places[0]} {places[-1]}", f"long {places[-1]} {places[0]}",
                         f"best 3 {text_of(other_names(row_tree(5)))}", "best 1000000 vvv"):
                self.assertEqual(refusal(desk, line), refusal(slow, line))
            self.assertEqual(desk.ask("show"), tree_shown(tree).split("\n"))

    def test_rows_are_texts_in_a_list(self):
        desk = desk_of(FOUR)
        for line in (*EVERY, "way a b", "long a b", "best 5 z", "put e a 1", "off e", "long a b 2",
                     "tree a b;a b 1"):
            told = desk.ask(line)
            self.assertIs(type(told), list)
            self.assertEqual({type(row) for row in told} - {str}, set())

    def test_what_is_told_is_the_asker_s_own(self):
        desk = desk_of(FOUR)
        for line in (*EVERY, "way a b", "long a b", "best 5 z", "put e a 1", "off e", "long a b 2"):
            before = self.state(desk)
            told = desk.ask(line)
            if told == []:
                told.append("more")
                continue
            kept = list(told)
            told.append("more")
            told[0] = "other"
            self.assertEqual(desk.ask(line), kept)
            told.clear()
            self.assertEqual(self.state(desk), before)
        for line in ("put e a 1", "off e", "long a b 3", "tree a"):
            self.assertEqual(desk.ask(line), [])
        self.assertEqual(desk.ask("pairs"), [])

    def test_what_is_told_stays_as_it_was_told(self):
        desk = desk_of(FOUR)
        told = self.state(desk)
        before = repr(told)
        for line in ("put e d 9", "long b a 77", "off c", "tree x y;x y 1"):
            desk.ask(line)
            self.assertEqual(repr(told), before)
            self.assertNotEqual(self.state(desk), told)


class Deeds(Checks):
    def test_they_tell_nothing(self):
        desk = Desk()
        for line in ("put b a 3", "put abcdefgh b 1000000", "long b a 1", "long b abcdefgh 1000000",
                     "off abcdefgh", "off a", "tree a", "tree b a;a b 1"):
            self.assertEqual(desk.ask(line), [])

    def test_the_tree_behind_them(self):
        desk = Desk()
        for line, rows in (
            ("put b a 3", ["a b", "a b 3"]),
            ("put c b 10", ["a b c", "a b 3", "b c 10"]),
            ("put d a 1000000", ["a b c d", "a b 3", "b c 10", "a d 1000000"]),
            ("long c b 4", ["a b c d", "a b 3", "b c 4", "a d 1000000"]),
            ("long a d 1", ["a b c d", "a b 3", "b c 4", "a d 1"]),
            ("off c", ["a b d", "a b 3", "a d 1"]),
            ("put c d 2", ["a b d c", "a b 3", "a d 1", "d c 2"]),
            ("off b", ["a d c", "a d 1", "d c 2"]),
            ("off a", ["d c", "d c 2"]),
            ("off d", ["c"]),
            ("put a c 9", ["c a", "c a 9"]),
            ("tree x", ["x"]),
            ("tree b a c;c a 2;b a 1", ["b a c", "c a 2", "b a 1"]),
        ):
            self.assertEqual(desk.ask(line), [])
            self.assertEqual(desk.ask("show"), rows)

    def test_refused_as_the_kept_tree_refuses(self):
        desk = desk_of(FOUR)
        for line, told in (
            ("put e q 1", ("NoPlace", "q")), ("put e e 1", ("NoPlace", "e")),
            ("put a q 1", ("NoPlace", "q")), ("put a b 1", ("NoJoin",)), ("put a a 1", ("NoJoin",)),
            ("off q", ("NoPlace", "q")), ("off b", ("NoJoin",)),
            ("long a q 1", ("NoPlace", "q")), ("long q r 1", ("NoPlace", "q")),
            ("long r q 1", ("NoPlace", "r")), ("long a c 1", ("NoJoin",)), ("long b b 1", ("NoJoin",)),
            ("long a q", ("NoPlace", "q")), ("long q r", ("NoPlace", "q")), ("long r q", ("NoPlace", "r")),
            ("way a q", ("NoPlace", "q")), ("way q r", ("NoPlace", "q")), ("way r q", ("NoPlace", "r")),
            ("way q q", ("NoPlace", "q")),
        ):
            with self.subTest(line=line):
                self.check_refused(desk, told, line)

    def test_two_desks_beside_one_another(self):
        first, second = Desk(), Desk()
        first.ask("put b a 3")
        self.assertEqual(second.ask("show"), ["a"])
        second.ask("tree x y;x y 5")
        self.assertEqual(first.ask("show"), ["a b", "a b 3"])
        self.assertEqual(Desk().ask("show"), ["a"])
        first.ask("off a")
        self.assertEqual(second.ask("far"), ["5 x y"])
        self.assertEqual(first.ask("far"), ["0 b b"])


class OtherLines(Checks):
    RIGHT = ("put e a 1", "off d", "long a b 7", "long a b", "show", "way a d", "far", "pairs", "nth 2",
             "middle", "sums", "least", "total", "swap")

    def test_empty_and_unknown(self):
        self.check_no_ask(
            desk_of(FOUR), "", " ", "  ", "\n", "a", "d a b c", "shows", "sho", "Show", "SHOW", "show;",
            "help", "none", "farthest", "tree", "best", "put", "off", "long", "way", "nth", "best 5",
            "tree;a", "trees a", "Tree a", "treea", "best5 z", "Best 5 z", "bests 5 z", "tree\na",
            "best\n5 z", "best 5\nz", "tree\n", "; show", "show;far", "show\nfar", "0", "a b c")

    def test_blanks_more_and_line_ends(self):
        desk = desk_of(FOUR)
        for line in self.RIGHT:
            self.check_no_ask(desk, " " + line, line + " ", "  " + line, line + "  ", "\n" + line,
                              line + "\n", line.upper(), line.capitalize())
            for k, sign in enumerate(line):
                if sign == " ":
                    self.check_no_ask(desk, line[:k] + " " + line[k:], line[:k] + "\n" + line[k + 1:],
                                      line[:k] + line[k + 1:], line[:k] + ";" + line[k + 1:])

    def test_words_more_and_fewer(self):
        desk = desk_of(FOUR)
        for line in self.RIGHT:
            self.check_no_ask(desk, line + " a b c", line + " 1 1", "a " + line)
            if line != "long a b":
                self.check_no_ask(desk, line + " a", line + " 1 a")
            told = line.split(" ")
            for k in range(len(told)):
                fewer = " ".join(told[:k] + told[k + 1:])
                if fewer not in self.RIGHT:
                    self.check_no_ask(desk, fewer)

    def test_long_with_two_words_and_with_three(self):
        desk = desk_of(FOUR)
        self.assertEqual(desk.ask("long d c"), ["6"])
        self.assertEqual(desk.ask("long d b 9"), [])
        self.assertEqual(desk.ask("long d c"), ["11"])
        self.assertEqual(desk.ask("long d b"), ["9"])
        self.check_no_ask(desk, "long", "long d", "long d b 9 9", "long d 9", "long 9 d b", "long d b ",
                          "long d b  9", "long d b x")

    def test_blanks_about_best_and_tree(self):
        desk = desk_of(FOUR)
        self.check_no_ask(desk, " best 5 z", "best  5 z", " tree z", "best  z", "best z", "best 5")
        self.check_refused(desk, ("NoTree", 0), "best 5  z")
        self.check_refused(desk, ("NoTree", 0), "best 5 z ")
        self.check_refused(desk, ("NoTree", 0), "best 5 ")
        self.check_refused(desk, ("NoTree", 0), "best 5  ")
        self.check_refused(desk, ("NoTree", 0), "tree  z")
        self.check_refused(desk, ("NoTree", 0), "tree z ")
        self.check_refused(desk, ("NoTree", 0), "tree ")
        self.check_refused(desk, ("NoTree", 0), "tree  ")
        self.check_no_ask(desk, "tree", "best", "best ")


class Words(Checks):
    def test_names_that_are_none(self):
        desk = desk_of(FOUR)
        for name in NO_NAMES:
            self.check_no_ask(
                desk, f"put {name} a 1", f"put e {name} 1", f"off {name}", f"way {name} a",
                f"way a {name}", f"long {name} a", f"long a {name}", f"long {name} b 1",
                f"long a {name} 1")

    def test_names_of_eight_letters(self):
        desk = Desk()
        for line in ("put abcdefgh a 1", "put zzzzzzzz abcdefgh 1", "long abcdefgh zzzzzzzz 9",
                     "off zzzzzzzz"):
            self.assertEqual(desk.ask(line), [])
        self.assertEqual(desk.ask("way a abcdefgh"), ["a abcdefgh"])
        self.check_refused(desk, ("NoPlace", "abcdefgi"), "off abcdefgi")

    def test_lengths_that_are_none(self):
        desk = desk_of(FOUR)
        for number in (*NO_NUMBERS, "0"):
            self.check_no_ask(desk, f"put e a {number}", f"long a b {number}", f"best {number} z")

    def test_lengths(self):
        for number in ("1", "9", "10", "100000", "999999", "1000000"):
            desk = desk_of(FOUR)
            # Of 1 any of a and b leaves 6; else b, from which the farthest is 4.
            wanted = "6 a z" if number == "1" else f"{int(number) + 4} b z"
            self.assertEqual(desk.ask(f"best {number} z"), [wanted])
            self.assertEqual(desk.ask(f"put e a {number}"), [])
            self.assertEqual(desk.ask("long a e"), [number])
            self.assertEqual(desk.ask(f"long b d {number}"), [])
            self.assertEqual(desk.ask("long b d"), [number])

    def test_so_manieths_that_are_none(self):
        desk = desk_of(FOUR)
        self.check_no_ask(desk, *[f"nth {number}" for number in NO_NUMBERS])

    def test_so_manieths(self):
        desk = desk_of(FOUR)
        self.assertEqual(desk.ask("nth 0"), ["6 d c"])
        self.assertEqual(desk.ask("nth 5"), ["1 a b"])
        for number in ("6", "10", "435", "999999", "1000000"):
            self.assertEqual(desk.ask(f"nth {number}"), ["none"])


class Texts(Checks):
    WRONG = (
        ("", 0), (" ", 0), (";", 0), ("A", 0), ("a1", 0), ("abcdefghi", 0), ("a a", 0), ("a b a;a b 1", 0),
        ("a  b;a b 1", 0), (" a", 0), ("a ", 0), ("a;", 1), ("a;;", 1), (";a", 0), ("z b", 1),
        ("z y x;z y 1", 2), ("z y;z y 1;", 2), ("z y;;z y 1", 1), ("z y;z y", 1), ("z y;z y 1 1", 1),
        ("z y;z y 0", 1), ("z y;z y 01", 1), ("z y;z y -1", 1), ("z y;z y x", 1), ("z y; z y 1", 1),
        ("z y;z y 1 ", 1), ("z y ;z y 1", 0), ("z y;z x 1", 1), ("z y;z z 1", 1), ("z y;z y 1;y z 1", 2),
        ("z y x w;z y 1;x w 1;z y 1", 3), ("z y x w;z y 1;x w 1", 3),
        # A line end is a wrong sign, in whichever row it is; it parts no rows.
        ("\n", 0), ("z\n", 0), ("\nz", 0), ("z\ny;z y 1", 0), ("z y\nz y 1", 0), ("z y\n;z y 1", 0),
        ("z y;\nz y 1", 1), ("z y;z y 1\n", 1), ("z y;z\ny 1", 1), ("z y;z y\n1", 1), ("z y;z y \n1", 1),
        ("z y x;z y 1\ny x 1", 1), ("z y x;z y 1\n;y x 1", 1), ("z y x;z y 1;y x 1\n", 2),
        ("z y x;z y 1;\n", 2), ("z y;z y 1;\n", 2), ("z y;z y 1\n;", 1), ("z y;z\n y 1", 1),
        ("z\n y;z y 1", 0), ("z y;z y 1\n1", 1), ("z z\n", 0),
    )

    def test_texts_that_are_no_trees(self):
        desk = desk_of(FOUR)
        for text, row in self.WRONG:
            with self.subTest(text=text):
                self.check_refused(desk, ("NoTree", row), f"tree {text}")
                self.check_refused(desk, ("NoTree", row), f"best 5 {text}")

    def test_rows_are_parted_by_semicolons(self):
        for text, rows in (("a", ["a"]), ("b a;a b 1", ["b a", "a b 1"]), ("tree", ["tree"]),
                           ("x y z;y x 1000000;z y 20", ["x y z", "y x 1000000", "z y 20"])):
            desk = desk_of(FOUR, f"tree {text}")
            self.assertEqual(desk.ask("show"), rows)

    def test_trees_of_thirty_and_of_thirty_one_places(self):
        for shape in (row_tree, star_tree):
            desk = desk_of(FOUR, f"tree {text_of(shape(30))}")
            self.assertEqual(desk.ask("show"), tree_shown(shape(30)).split("\n"))
            self.check_no_ask(desk, f"tree {text_of(shape(31))}", f"tree {text_of(shape(32))}",
                              f"tree {text_of(shape(60))}")

    def test_no_tree_is_ahead_of_too_many_places(self):
        desk = desk_of(FOUR)
        rows = text_of(row_tree(31)).split(";")
        for text, row in ((rows[0], 1), (";".join(rows[:-1]), 30), (";".join(rows) + ";", 31),
                          (";".join(rows[:5]) + ";a b", 5), (rows[0] + " A", 0)):
            self.check_refused(desk, ("NoTree", row), f"tree {text}")
            self.check_refused(desk, ("NoTree", row), f"best 5 {text}")

    def test_best_with_thirty_and_with_thirty_one_together(self):
        for many in (1, 4, 15, 29):
            tree = row_tree(many)
            desk = desk_of(f"tree {text_of(tree)}")
            other = other_names(row_tree(30 - many))
            more = other_names(row_tree(31 - many))
            self.assertEqual(desk.ask(f"best 7 {text_of(other)}"), [words(best_join(tree, other, 7))])
            self.check_no_ask(desk, f"best 7 {text_of(more)}",
                              f"best 7 {text_of(other_names(row_tree(30)))}",
                              f"best 7 {text_of(other_names(row_tree(31)))}")
        desk = desk_of(f"tree {text_of(row_tree(30))}")
        self.check_no_ask(desk, "best 7 vvv", f"best 7 {names(1)[0]}")

    def test_a_name_in_both_is_counted_twice(self):
        tree = row_tree(15)
        desk = desk_of(f"tree {text_of(tree)}")
        self.check_refused(desk, ("NoJoin",), f"best 7 {text_of(tree)}")
        self.check_refused(desk, ("NoJoin",), f"best 7 {tree[0][14]}")
        self.check_refused(desk, ("NoJoin",), f"best 7 {text_of(row_tree(14))}")
        self.check_no_ask(desk, f"best 7 {text_of(row_tree(16))}")
        # 16 places of which one is here too: 30 unlike names, but 31 places.
        places, ties = other_names(row_tree(15))
        more = (places + (tree[0][0],), ties + ((places[3], tree[0][0], 1),))
        self.check_no_ask(desk, f"best 7 {text_of(more)}")
        less = (places[:-1] + (tree[0][0],), ties[:-1] + ((places[3], tree[0][0], 1),))
        self.check_refused(desk, ("NoJoin",), f"best 7 {text_of(less)}")


class Order(Checks):
    """Of several refusals that are due the first one told is given."""

    def test_no_ask_is_ahead_of_what_the_parts_refuse(self):
        desk = desk_of(FOUR)
        self.check_no_ask(desk, "put e q 0", "put a q 0", "put a b 0", "put E q 1", "put e Q 1",
                          "put a b 01", "put a b 1000001", "off Q", "way q Q", "way Q q", "long q Q",
                          "long q r 0", "long q Q 1", "long a c 0", "long a c 1000001", "long q r x",
                          "long Q a 1")

    def test_no_ask_of_the_words_is_ahead_of_no_tree(self):
        desk = desk_of(FOUR)
        thirty = text_of(row_tree(31))
        self.check_no_ask(desk, "best 0 A", "best 01 A", "best x A", "best 1000001 ", "best  A", "best 0 a",
                          "best A 5", f"best 0 {thirty}", f"best 1000001 {thirty};")

    def test_no_tree_and_then_too_many_and_then_no_join(self):
        desk = desk_of(FOUR)
        places, ties = row_tree(27)
        self.assertIn("d", places[:26])
        self.check_refused(desk, ("NoTree", 26), "best 5 " + text_of((places, ties[:-1])) + ";")
        self.check_no_ask(desk, "best 5 " + text_of((places, ties)))
        self.check_refused(desk, ("NoJoin",), "best 5 " + text_of((places[:26], ties[:25])))
        self.check_refused(desk, ("NoTree", 1), "best 5 a b")
        self.check_refused(desk, ("NoJoin",), "best 5 a b;a b 1")
        self.check_refused(desk, ("NoJoin",), "best 5 z d;z d 1")

    def test_any_put_where_there_are_thirty_places(self):
        tree = star_tree(30)
        desk = desk_of(f"tree {text_of(tree)}")
        here, there = tree[0][0], tree[0][29]
        self.check_no_ask(desk, f"put newone {here} 1", f"put {here} {there} 1", f"put {here} {here} 1",
                          "put newone nowhere 1", f"put {here} nowhere 1", f"put newone {here} 0", f"put V {here} 1")
        self.assertEqual(desk.ask(f"long {here} {there} 5"), [])
        self.assertEqual(desk.ask(f"off {here}"), [])
        self.check_refused(desk, ("NoPlace", here), f"put newone {here} 1")
        self.check_refused(desk, ("NoJoin",), f"put {there} {there} 1")
        self.assertEqual(desk.ask(f"put newone {there} 1"), [])
        self.check_no_ask(desk, f"put {here} {there} 1")
        self.assertEqual(desk.ask("off newone"), [])
        self.assertEqual(desk.ask(f"put {here} {there} 1"), [])

    def test_thirty_places_put_in_one_by_one(self):
        desk = Desk()
        for number, name in enumerate(other_names(row_tree(29))[0]):
            self.assertEqual(desk.ask(f"put {name} a {number + 1}"), [])
        self.assertEqual(len(desk.ask("show")), 30)
        self.check_no_ask(desk, "put b a 1", "put a a 1", "put b q 1")
        self.assertEqual(desk.ask("tree a"), [])
        self.assertEqual(desk.ask("put b a 1"), [])


class DrawnLines(Checks):
    def place(self, chance, slow):
        if chance.random() < 0.85:
            return chance.choice(slow.kept.places)
        return chance.choice(["q", "zz", "A", "", "a1", "abcdefghi", "ab\n"])

    def number(self, chance):
        if chance.random() < 0.85:
            return str(chance.choice([1, 1, 2, 3, 4, 9, 10, 250, 10 ** 6]))
        return chance.choice(["0", "00", "01", "-1", "x", "1000001", "", "1\n"])

    def text(self, chance):
        many = chance.choice([1, 2, 3, 5, 12, 29, 30, 31])
        tree = chance.choice([row_tree, star_tree, lambda k: mixed_tree(k, 8)])(many)
        if chance.random() < 0.6:
            tree = other_names(tree, chance.choice("vwx"))
        text = text_of(with_lengths(tree, (1, 2)) if chance.random() < 0.5 else tree)
        if chance.random() < 0.25:
            at = chance.randrange(len(text) + 1)
            text = text[:at] + chance.choice([" ", ";", "\n", "a", "0", "A", ""]) + text[at + 1:]
        return text

    def line(self, chance, slow):
        kind = chance.choice(("put",) * 8 + ("off",) * 3 + ("long",) * 4 + ("ways", "best", "nth")
                             + EVERY * 2 + ("other",) + ("tree",) * (chance.random() < 0.4))
        place, number = self.place, self.number
        if kind == "put":
            name = "".join([chance.choice("bcdefgh") for _ in range(chance.choice([1, 2, 3, 8]))])
            return f"put {name} {place(chance, slow)} {number(chance)}"
        if kind == "off":
            return f"off {place(chance, slow)}"
        if kind == "long":
            one, other = (chance.choice(slow.kept.ties) if slow.kept.ties else "aa")[:2]
            if chance.random() < 0.3:
                one, other = place(chance, slow), other
            pair = chance.choice([f"{one} {other}", f"{other} {one}"])
            return f"long {pair} {number(chance)}"
        if kind == "ways":
            return f"{chance.choice(['way', 'long'])} {place(chance, slow)} {place(chance, slow)}"
        if kind == "best":
            return f"best {number(chance)} {self.text(chance)}"
        if kind == "tree":
            return f"tree {self.text(chance)}"
        if kind == "nth":
            return f"nth {chance.choice([0, 1, 2, 5, 20, 100, 434, 435, '01', '', 10 ** 6, 10 ** 6 + 1])}"
        if kind == "other":
            return chance.choice(["", " ", "show ", " far", "fars", "put", "tree", "best", "best 5", "way a",
                                  "nth", "off", "long a", "show\n", "swap 0", "middle a"])
        return kind

    def test_long_rows_of_drawn_lines(self):
        kinds = {}
        for seed in range(6):
            chance = random.Random(seed)
            desk, slow = Desk(), Slow()
            for _ in range(900):
                line = self.line(chance, slow)
                told, wanted = refusal(desk, line), slow.ask(line)
                self.assertEqual(told, wanted, line)
                self.assertEqual(desk.ask("show"), slow.ask("show"), line)
                key = told[0] if isinstance(told, tuple) else line.split(" ")[0]
                kinds[key] = kinds.get(key, 0) + 1
        # All kinds of lines and of refusals were drawn many times.
        for key in ("put", "off", "long", "way", "best", "tree", "nth", "swap", "middle", "pairs",
                    "NoAsk", "NoTree", "NoPlace", "NoJoin"):
            self.assertGreater(kinds[key], 15, key)

    def test_long_rows_of_drawn_signs(self):
        chance = random.Random(4)
        desk, slow = desk_of(FOUR), Slow()
        slow.ask(FOUR)
        heads = ("tree", "put", "off", "long", "show", "way", "far", "nth", "best", "least", "swap")
        for _ in range(3000):
            signs = "".join([chance.choice("ab 1;\n0 d") for _ in range(chance.randrange(9))])
            line = chance.choice(heads) + chance.choice([" ", " ", ""]) + signs
            self.assertEqual(refusal(desk, line), slow.ask(line), line)
            self.assertEqual(desk.ask("show"), slow.ask("show"), line)

    def test_the_same_lines_are_answered_the_same(self):
        chance = random.Random(11)
        slow, lines = Slow(), []
        for _ in range(300):
            lines.append(self.line(chance, slow))
            slow.ask(lines[-1])
        first, second = Desk(), Desk()
        for line in lines:
            told = refusal(first, line)
            self.assertEqual(refusal(second, line), told)
            if line.split(" ")[0] in ("show", "far", "swap", "sums"):
                self.assertEqual(refusal(first, line), told)


class Standing(unittest.TestCase):
    def test_ask_stands_in_the_class_itself(self):
        self.assertIn("ask", vars(Desk))


if __name__ == "__main__":
    unittest.main()
