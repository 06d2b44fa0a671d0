"""Trees for the tests, and slow plain ways of working things out again."""

import functools
import itertools
import re
from fractions import Fraction

LETTERS = "abcdefghijklmnopqrstuvwxyz"


def names(many):
    """So many unlike names of one to eight letters, not in the alphabet's order."""
    told = []
    for k in range(many):
        first = LETTERS[(7 * k + 3) % 26]
        told.append(first * (1 + (k // 26 + k) % 8))
    assert len(set(told)) == many
    return tuple(told)


def row_tree(many):
    """Each place tied to the next, the ties told now one way, now the other."""
    places = names(many)
    ties = []
    for k in range(1, many):
        pair = (places[k - 1], places[k]) if k % 2 else (places[k], places[k - 1])
        ties.append((*pair, k * k))
    return places, tuple(ties)


def star_tree(many):
    """All places tied to the last one, the ties in turned order."""
    places = names(many)
    ties = [(places[k], places[-1], k + 1) for k in range(many - 1)]
    return places, tuple(reversed(ties))


def mixed_tree(many, seed):
    """A tree of any shape: the same for the same seed."""
    state = seed
    places = names(many)
    ties = []
    for k in range(1, many):
        state = (state * 1103515245 + 12345) % 2 ** 31
        to = (state // 65536) % k
        length = 10 ** 6 if state // 1024 % 5 == 0 else 1 + state // 2048 % 12
        pair = (places[k], places[to]) if state // 512 % 2 else (places[to], places[k])
        ties.insert(state // 4096 % (k + 1), (*pair, length))
    turn = seed % many
    return places[turn:] + places[:turn], tuple(ties)


def all_trees(many, lengths=(1, 2, 4, 8, 16)):
    """All trees of so many places, the ties' lengths as they are handed in."""
    places = tuple("dbacfe"[:many])
    for chosen in itertools.combinations(itertools.combinations(places, 2), many - 1):
        if whole(places, chosen):
            ties = [(a, b, lengths[k]) if k % 2 else (b, a, lengths[k])
                    for k, (a, b) in enumerate(chosen)]
            yield places, tuple(ties)


def few_trees(many, lengths):
    """All trees of so many places with ties of these lengths in any mixture."""
    for mixture in itertools.product(lengths, repeat=many - 1):
        yield from all_trees(many, mixture)


def two_arms(places, one, other, lengths):
    """Two rows of so many places each from the first place on, lengths in turn."""
    ties = []
    for k in range(1, one + other + 1):
        back = 0 if k == one + 1 else k - 1
        pair = (places[k], places[back]) if k % 3 else (places[back], places[k])
        ties.append((*pair, lengths[k % len(lengths)]))
    return places[:one + other + 1], tuple(ties[::-1])


def with_lengths(tree, lengths):
    """The same tree with other lengths, in turn."""
    places, ties = tree
    return places, tuple([(one, other, lengths[k % len(lengths)])
                          for k, (one, other, _) in enumerate(ties)])


def alike_trees():
    """Trees in which many pairs of places are equally far apart."""
    for many in (2, 3, 4):
        yield from few_trees(many, (1, 2))
    yield from all_trees(5, (1, 1, 1, 1))
    yield from all_trees(5, (3, 10 ** 6, 10 ** 6, 3))
    for many in (7, 30, 60):
        for lengths in ((1,), (2, 1), (10 ** 6,), (1, 10 ** 6)):
            yield with_lengths(star_tree(many), lengths)
            yield with_lengths(row_tree(many), lengths)
            yield with_lengths(mixed_tree(many, 5), lengths)
            yield two_arms(names(many)[::-1], many // 2, (many - 1) // 2, lengths)


def some_trees():
    """Trees of many shapes and of one to sixty places."""
    for many in range(1, 6):
        yield from all_trees(many)
    for many in (1, 2, 3, 12, 29, 30, 60):
        yield row_tree(many)
        yield star_tree(many)
        for seed in range(4):
            yield mixed_tree(many, seed)


def reached(ties, start):
    """The places that the pairs of places lead to from start."""
    found = {start}
    grown = True
    while grown:
        grown = False
        for tie in ties:
            if (tie[0] in found) != (tie[1] in found):
                found.update(tie[:2])
                grown = True
    return found


def whole(places, ties):
    return len(reached(ties, places[0])) == len(places)


def slow_way(tree, one, other):
    """The way and its length, found by going on from the one at every tie."""
    places, ties = tree
    ways = [((one,), 0)]
    for way, length in ways:
        if way[-1] == other:
            return way, length
        for first, second, more in ties:
            for here, there in ((first, second), (second, first)):
                if here == way[-1] and there not in way:
                    ways.append((way + (there,), length + more))
    raise AssertionError("no way")


@functools.lru_cache(maxsize=None)
def slow_lengths(tree):
    """The lengths of all ways, both ways about: a dict from pairs of places."""
    places, ties = tree
    if len(places) <= 6:
        return {(one, other): slow_way(tree, one, other)[1]
                for one in places for other in places}
    told = {}
    for one in places:
        told[one, one] = 0
        ahead = [one]
        for here in ahead:
            for first, second, length in ties:
                for near, far in ((first, second), (second, first)):
                    if near == here and (one, far) not in told:
                        told[one, far] = told[one, here] + length
                        ahead.append(far)
    return told


@functools.lru_cache(maxsize=None)
def slow_pairs(tree):
    """All pairs of two places in their order, as triples (length, one, other)."""
    lengths = slow_lengths(tree)
    return [(lengths[pair], *pair) for pair in itertools.combinations(tree[0], 2)]


def slow_point(tree, point):
    """How far all places are from the point, or None where none is told so."""
    places, ties = tree
    one, other, (above, below) = point
    if one not in places or other not in places or below < 1:
        return None
    part = Fraction(above, below)
    if (part.numerator, part.denominator) != (above, below):
        return None
    lengths = slow_lengths(tree)
    if one == other:
        return None if part else [Fraction(lengths[one, place]) for place in places]
    tied = [tie for tie in ties if {one, other} == set(tie[:2])]
    if not tied or places.index(one) > places.index(other) or not 0 < part < tied[0][2]:
        return None
    # The places that are still come to from one without the tie lie on its side.
    near = reached([tie for tie in ties if tie != tied[0]], one)
    return [lengths[one, place] + part if place in near
            else lengths[other, place] + tied[0][2] - part for place in places]


def slow_wrong_row(text):
    """The first wrong row of the text of a tree, or None."""
    rows = text.split("\n")
    places = rows[0].split(" ")
    if not re.fullmatch("[a-z]{1,8}( [a-z]{1,8})*", rows[0]) or len(set(places)) < len(places):
        return 0
    ties = []
    for number, row in enumerate(rows[1:], 1):
        found = re.fullmatch("([a-z]+) ([a-z]+) [1-9][0-9]*", row)
        if not found or not {found[1], found[2]} <= set(places):
            return number
        if found[2] in reached(ties, found[1]):
            return number
        ties.append((found[1], found[2]))
    return None if whole(places, ties) else len(rows)


class Plain:
    """What a kept tree does, told again over lists; a refusal is told as a tuple."""

    def __init__(self, tree):
        self.places = list(tree[0])
        self.ties = [list(tie) for tie in tree[1]]

    def tree(self):
        return tuple(self.places), tuple([tuple(tie) for tie in self.ties])

    def missing(self, *told):
        for name in told:
            if name not in self.places:
                return ("NoPlace", name)
        return None

    def put_leaf(self, name, place, length):
        refused = self.missing(place)
        if refused:
            return refused
        if name in self.places or length < 1:
            return ("NoJoin",)
        self.places.append(name)
        self.ties.append([place, name, length])
        return None

    def take_leaf(self, name):
        refused = self.missing(name)
        if refused:
            return refused
        its = [tie for tie in self.ties if name in tie[:2]]
        if len(its) != 1 or len(self.places) == 1:
            return ("NoJoin",)
        self.places.remove(name)
        self.ties.remove(its[0])
        return None

    def lengthen(self, one, other, length):
        refused = self.missing(one, other)
        if refused:
            return refused
        for tie in self.ties:
            if one != other and {one, other} == set(tie[:2]) and length >= 1:
                tie[2] = length
                return None
        return ("NoJoin",)
