"""The desk: it keeps a tree, and answers lines that change it or ask of it."""

from farplaces.errors import NoAsk
from farplaces.far.pairs import all_farthest, nth_farthest
from farplaces.far.sums import least_sums, sums_from, total_of
from farplaces.joined.elsewhere import best_change
from farplaces.joined.two import best_join
from farplaces.kept import KeptTree
from farplaces.trees.texts import is_length, is_name, read_tree, tree_shown
from farplaces.trees.ways import length_between, way_between

MOST_PLACES = 30
GREATEST = 1000000


class Desk:
    """Keeps a tree, at first one place a."""

    def __init__(self):
        self._kept = KeptTree((("a",), ()))

    def ask(self, line):
        """List the rows that answer the line, or refuse with a FarError."""
        head, *words = _words_of(line)
        if head == "tree" and words:
            self._kept = KeptTree(_read_text(words[0], 0))
            return []
        action = ACTIONS.get((head, len(words)))
        if action is None:
            raise NoAsk(f"no such line: {line}")
        return action(self._kept, *words)


def _words_of(line):
    """The words of the line; TEXT, all behind its blank, is one of them."""
    if line.startswith("tree "):
        return line.split(" ", 1)
    if line.startswith("best "):
        return line.split(" ", 2)
    return line.split(" ")


def _put(kept, name, place, length):
    _check_names((name, place))
    told = _read_number(length, 1)
    if len(kept.tree_now()[0]) >= MOST_PLACES:
        raise NoAsk("there are as many places as may be")
    kept.put_leaf(name, place, told)
    return []


def _off(kept, name):
    _check_names((name,))
    kept.take_leaf(name)
    return []


def _lengthen(kept, one, other, length):
    _check_names((one, other))
    kept.lengthen(one, other, _read_number(length, 1))
    return []


def _show(kept):
    return tree_shown(kept.tree_now()).split("\n")


def _way(kept, one, other):
    _check_names((one, other))
    return [" ".join(way_between(kept.tree_now(), one, other))]


def _length(kept, one, other):
    _check_names((one, other))
    return [str(length_between(kept.tree_now(), one, other))]


def _far(kept):
    return [_row_of(kept.farthest_now())]


def _pairs(kept):
    return [_row_of(pair) for pair in all_farthest(kept.tree_now())]


def _nth(kept, place):
    return [_row_of(nth_farthest(kept.tree_now(), _read_number(place, 0)))]


def _middle(kept):
    (one, other, part), half = kept.middle_now()
    if one == other:
        return [one, _fraction_shown(half)]
    return [f"{one} {other} {_fraction_shown(part)}", _fraction_shown(half)]


def _sums(kept):
    return [_row_of(sums_from(kept.tree_now()))]


def _least(kept):
    return [_row_of(least_sums(kept.tree_now()))]


def _total(kept):
    return [str(total_of(kept.tree_now()))]


def _best(kept, length, text):
    told = _read_number(length, 1)
    tree = kept.tree_now()
    return [_row_of(best_join(tree, _read_text(text, len(tree[0])), told))]


def _swap(kept):
    return [_row_of(best_change(kept.tree_now()))]


# What answers a line, by its first word and how many words stand behind it.
ACTIONS = {
    ("put", 3): _put,
    ("off", 1): _off,
    ("long", 3): _lengthen,
    ("show", 0): _show,
    ("way", 2): _way,
    ("long", 2): _length,
    ("far", 0): _far,
    ("pairs", 0): _pairs,
    ("nth", 1): _nth,
    ("middle", 0): _middle,
    ("sums", 0): _sums,
    ("least", 0): _least,
    ("total", 0): _total,
    ("best", 2): _best,
    ("swap", 0): _swap,
}


def _check_names(words):
    for word in words:
        if not is_name(word):
            raise NoAsk(f"{word} is no name")


def _read_number(word, least):
    """The number from least to GREATEST that the word writes, or NoAsk."""
    if word != "0" and not is_length(word):
        raise NoAsk(f"{word} is no number")
    # Counted first, as int refuses words of thousands of figures.
    if len(word) > len(str(GREATEST)) or not least <= int(word) <= GREATEST:
        raise NoAsk(f"{word} is too small or too great")
    return int(word)


def _read_text(text, beside):
    """The tree that TEXT writes, of so many places that it has room beside those."""
    # A line end in TEXT is a wrong sign, but would part rows for read_tree.
    tree = read_tree(text.replace("\n", "?").replace(";", "\n"))
    if beside + len(tree[0]) > MOST_PLACES:
        raise NoAsk("these are more places than may be")
    return tree


def _row_of(told):
    """What is told, parted by single blanks, or none."""
    if told is None:
        return "none"
    return " ".join([str(part) for part in told])


def _fraction_shown(fraction):
    above, below = fraction
    if below == 1:
        return str(above)
    return f"{above}/{below}"
