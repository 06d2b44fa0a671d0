"""Trees as texts: the places in the first row, then a row for each tie."""

from farplaces.errors import NoTree

LETTERS = "abcdefghijklmnopqrstuvwxyz"
FIGURES = "0123456789"
LONGEST_NAME = 8


def read_tree(text):
    """Tell the tree that the text writes, or refuse with NoTree."""
    rows = text.split("\n")
    places = _read_places(rows[0])
    parts = {place: place for place in places}
    ties = []
    for number, row in enumerate(rows[1:], start=1):
        tie = _read_tie(row, number, parts)
        _hang_together(parts, tie[0], tie[1])
        ties.append(tie)
    # No tie closes a round, so all hang together just when there are so many.
    if len(ties) < len(places) - 1:
        raise NoTree(len(rows))
    return places, tuple(ties)


def tree_shown(tree):
    """Write the tree as read_tree reads it."""
    places, ties = tree
    rows = [" ".join(places)]
    for one, other, length in ties:
        rows.append(f"{one} {other} {length}")
    return "\n".join(rows)


def _read_places(row):
    names = row.split(" ")
    for name in names:
        if not is_name(name) or names.count(name) > 1:
            raise NoTree(0)
    return tuple(names)


def _read_tie(row, number, parts):
    words = row.split(" ")
    if len(words) != 3:
        raise NoTree(number)
    one, other, length = words
    if one not in parts or other not in parts:
        raise NoTree(number)
    if not is_length(length) or parts[one] == parts[other]:
        raise NoTree(number)
    return one, other, int(length)


def _hang_together(parts, one, other):
    """Give the part of other the mark of the part of one."""
    kept = parts[one]
    gone = parts[other]
    for place in list(parts):
        if parts[place] == gone:
            parts[place] = kept


def is_name(word):
    """Tell whether the word is one to eight small letters."""
    if not 1 <= len(word) <= LONGEST_NAME:
        return False
    return all([sign in LETTERS for sign in word])


def is_length(word):
    """Tell whether the word is a number from 1 on, in figures without a nought ahead."""
    # Asked sign by sign: int takes signs ahead, blanks and underscores, too.
    if word == "" or word.startswith("0"):
        return False
    return all([sign in FIGURES for sign in word])
