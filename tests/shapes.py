"""Trees for the tests, and slow plain ways of working things out again."""

import itertools
import re

LETTERS = "abcdefghijklmnopqrstuvwxyz"


def names(many):
    """So many unlike names of one to eight letters, not in the alphabet's order."""
    told = []
    for k in range(many):
        first = LETTERS[(7 * k + 3) % 26]
        told.append(first * (1 + (k // 26 + k) % 8))
    assert len(set(told)) == many
    return tuple(told)


def row_tree(many):
    """Each place tied to the next, the ties told now one way, now the other."""
    places = names(many)
    ties = []
    for k in range(1, many):
        pair = (places[k - 1], places[k]) if k % 2 else (places[k], places[k - 1])
        ties.append((*pair, k * k))
    return places, tuple(ties)


def star_tree(many):
    """All places tied to the last one, the ties in turned order."""
    places = names(many)
    ties = [(places[k], places[-1], k + 1) for k in range(many - 1)]
    return places, tuple(reversed(ties))


def mixed_tree(many, seed):
    """A tree of any shape: the same for the same seed."""
    state = seed
    places = names(many)
    ties = []
    for k in range(1, many):
        state = (state * 1103515245 + 12345) % 2 ** 31
        to = (state // 65536) % k
        length = 10 ** 6 if state // 1024 % 5 == 0 else 1 + state // 2048 % 12
        pair = (places[k], places[to]) if state // 512 % 2 else (places[to], places[k])
        ties.insert(state // 4096 % (k + 1), (*pair, length))
    turn = seed % many
    return places[turn:] + places[:turn], tuple(ties)


def all_trees(many):
    """All trees of so many places, each tie of a length of its own."""
    places = tuple("dbacfe"[:many])
    for chosen in itertools.combinations(itertools.combinations(places, 2), many - 1):
        if whole(places, chosen):
            ties = [(a, b, 2 ** k) if k % 2 else (b, a, 2 ** k)
                    for k, (a, b) in enumerate(chosen)]
            yield places, tuple(ties)


def some_trees():
    """Trees of many shapes and of one to sixty places."""
    for many in range(1, 6):
        yield from all_trees(many)
    for many in (1, 2, 3, 12, 29, 30, 60):
        yield row_tree(many)
        yield star_tree(many)
        for seed in range(4):
            yield mixed_tree(many, seed)


def reached(ties, start):
    """The places that the pairs of places lead to from start."""
    found = {start}
    grown = True
    while grown:
        grown = False
        for tie in ties:
            if (tie[0] in found) != (tie[1] in found):
                found.update(tie[:2])
                grown = True
    return found


def whole(places, ties):
    return len(reached(ties, places[0])) == len(places)


def slow_way(tree, one, other):
    """The way and its length, found by going on from the one at every tie."""
    places, ties = tree
    ways = [((one,), 0)]
    for way, length in ways:
        if way[-1] == other:
            return way, length
        for first, second, more in ties:
            for here, there in ((first, second), (second, first)):
                if here == way[-1] and there not in way:
                    ways.append((way + (there,), length + more))
    raise AssertionError("no way")


def slow_wrong_row(text):
    """The first wrong row of the text of a tree, or None."""
    rows = text.split("\n")
    places = rows[0].split(" ")
    if not re.fullmatch("[a-z]{1,8}( [a-z]{1,8})*", rows[0]) or len(set(places)) < len(places):
        return 0
    ties = []
    for number, row in enumerate(rows[1:], 1):
        found = re.fullmatch("([a-z]+) ([a-z]+) [1-9][0-9]*", row)
        if not found or not {found[1], found[2]} <= set(places):
            return number
        if found[2] in reached(ties, found[1]):
            return number
        ties.append((found[1], found[2]))
    return None if whole(places, ties) else len(rows)
