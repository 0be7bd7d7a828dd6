"""What the tests share: trees as nested pairs, worked out by recursion, wrong values, and a limit of time."""

import contextlib
import fractions
import functools
import itertools
import random
import signal

from treeturns.moves import Move

# Values of every kind that [2] calls "any value", but for moves. None of them is a tree, an address, a script or the
# text of one.
NO_MOVES = [
    None, True, False, 0, 1, -1, 7, 10 ** 30,
    "x", "L", "lrx", "l.", "()", "(.)", "(..", "..)", "(...)", "(..))", "..", "(..)(..)", "( ..)", "\u2024", "((..)..)",
    (), (".",), ("l",), ("right", ""), (("right", ""),), (None, (1, ("l",))),
    {}, {"l": "r"}, {1: [(), {"a": None}]},
    [None], ["l"], [["right", ""]], [[], [[]]], [("right",)], [("right", "", "")], [("up", "")], [("right", "x")],
    [Move("(..)", "(..)")], (Move(".", "."), Move(".", ".")), {"move": Move(".", ".")}, [("right", Move(".", "."))],
    [(Move(".", "."), "")], (Move(".", "."),),
]
WRONG = NO_MOVES + [Move(".", "."), Move("((..).)", "(.(..))")]


def shapes(nodes):
    """All trees with so many nodes, as nested pairs; a leaf is None."""
    if nodes == 0:
        return [None]
    return [(left, right) for many in range(nodes) for left in shapes(many) for right in shapes(nodes - 1 - many)]


def text(tree):
    return "." if tree is None else "(" + text(tree[0]) + text(tree[1]) + ")"


def texts(nodes):
    """The texts of all trees with at most so many nodes."""
    return [text(tree) for many in range(nodes + 1) for tree in shapes(many)]


def read(tree):
    """The nested pairs of a text; only for texts of trees."""
    def from_here(at):
        if tree[at] == ".":
            return None, at + 1
        left, middle = from_here(at + 1)
        right, end = from_here(middle)
        return (left, right), end + 1
    return from_here(0)[0]


def all_parts(tree, address=""):
    """(address, part) of all parts, each node between what is to its left and to its right."""
    if tree is None:
        return [(address, tree)]
    return all_parts(tree[0], address + "l") + [(address, tree)] + all_parts(tree[1], address + "r")


def put(tree, address, other):
    if address == "":
        return other
    if address[0] == "l":
        return (put(tree[0], address[1:], other), tree[1])
    return (tree[0], put(tree[1], address[1:], other))


def depth(tree):
    return 0 if tree is None else 1 + max(depth(tree[0]), depth(tree[1]))


def fill(tree, trees):
    """The tree grown by a list of trees, which is used up."""
    if tree is None:
        return trees.pop(0)
    left = fill(tree[0], trees)
    return (left, fill(tree[1], trees))


def below(tree, top):
    """The list by which the top grows into the tree, or None."""
    if top is None:
        return [tree]
    if tree is None:
        return None
    left, right = below(tree[0], top[0]), below(tree[1], top[1])
    return None if left is None or right is None else left + right


def step(tree, word, address):
    """The tree after a rotation, or None."""
    here = dict(all_parts(tree)).get(address)
    if here is None:
        return None
    left, right = here
    if word == "right" and left is not None:
        return put(tree, address, (left[0], (left[1], right)))
    if word == "left" and right is not None:
        return put(tree, address, ((left, right[0]), right[1]))
    return None


def run(tree, script):
    """The tree after a script, or the index of the step that cannot be done."""
    for index, (word, address) in enumerate(script):
        tree = step(tree, word, address)
        if tree is None:
            return index
    return tree


def addresses(letters):
    """All addresses of at most so many letters."""
    if letters == 0:
        return [""]
    return [""] + [letter + rest for letter in "lr" for rest in addresses(letters - 1)]


def moves(nodes):
    """All moves with at most so many nodes in each tree."""
    return [Move(text(before), text(after)) for many in range(nodes + 1)
            for before, after in itertools.product(shapes(many), repeat=2)]


def any_tree(nodes, chance):
    """The text of a tree by chance."""
    if nodes == 0:
        return "."
    many = chance.randrange(nodes)
    return "(" + any_tree(many, chance) + any_tree(nodes - 1 - many, chance) + ")"


def any_moves(many, nodes, seed):
    """Moves by chance, the same ones in each run."""
    chance = random.Random(seed)
    return [Move(any_tree(nodes, chance), any_tree(nodes, chance)) for _ in range(many)]


def done(move, tree):
    """What the move makes of a text, or None."""
    trees = below(read(tree), read(move.before))
    return None if trees is None else text(fill(read(move.after), trees))


def stretches(tree, start=fractions.Fraction(0), end=fractions.Fraction(1)):
    """The ends of the stretches of all leaves."""
    if tree is None:
        return [(start, end)]
    middle = (start + end) / 2
    return stretches(tree[0], start, middle) + stretches(tree[1], middle, end)


def line(move):
    """The line of a move, as a function."""
    rows = list(zip(stretches(read(move.before)), stretches(read(move.after))))

    def at(number):
        (start, end), (low, high) = next(row for row in rows if number <= row[0][1])
        return low + (number - start) * (high - low) / (end - start)
    return at


def corners(move):
    """Where the line of a move may bend, and both ends."""
    return [fractions.Fraction(0)] + [end for start, end in stretches(read(move.before))]


def stretch_of(address):
    """The ends of what an address stands for."""
    start, end = fractions.Fraction(0), fractions.Fraction(1)
    for letter in address:
        middle = (start + end) / 2
        start, end = (start, middle) if letter == "l" else (middle, end)
    return start, end


def plain(number):
    """The fraction of the document."""
    return number.numerator, number.denominator


def grown_high(tree, heights):
    """The height of a tree of pairs, if trees of these heights hang at its leaves, and the lean of each node."""
    ahead, found = list(heights), []

    def high(here):
        if here is None:
            return ahead.pop(0)
        left = high(here[0])
        at = len(found)
        found.append(None)
        right = high(here[1])
        found[at] = left - right
        return 1 + max(left, right)
    return high(tree), found


def steady(tree, heights, slack):
    """Whether it is balanced then."""
    return all(abs(lean) <= slack for lean in grown_high(tree, heights)[1])


@functools.lru_cache(maxsize=None)
def fewest(high, slack):
    """The fewest nodes of a balanced tree of a height, by trying the heights of both parts."""
    if high == 0:
        return 0
    return 1 + min(fewest(left, slack) + fewest(right, slack) for left in range(high) for right in range(high)
                   if max(left, right) == high - 1 and abs(left - right) <= slack)


def smallest(high, slack):
    """A balanced tree of a height with the fewest nodes, as pairs."""
    if high == 0:
        return None
    return (smallest(high - 1, slack), smallest(max(0, high - 1 - slack), slack))


def lowest_rows(tree, slack):
    """All rows of heights with which a tree is balanced and of which the lowest height is 0, in order."""
    def rows(here, high):
        if here is None:
            return [[high]]
        found = []
        for left in range(high - 1 - slack, high):
            for right in range(high - 1 - slack, high):
                if max(left, right) == high - 1:
                    found += [one + other for one in rows(here[0], left) for other in rows(here[1], right)]
        return found
    return sorted([high - min(row) for high in row] for row in rows(tree, 0))


def steps_from(tree):
    """(step, result) for all rotations of a tree of pairs, in order."""
    tried = [((word, address), step(tree, word, address)) for word in ("left", "right")
             for address, _ in sorted(all_parts(tree), key=lambda pair: pair[0])]
    return [(turn, result) for turn, result in tried if result is not None]


def scripts_from(tree, many):
    """(script, result) for all scripts of so many steps that can be done on a tree of pairs, in order."""
    found = [([], tree)]
    for _ in range(many):
        found = [(script + [turn], result) for script, now in found for turn, result in steps_from(now)]
    return found


def leaning(nodes, side):
    """A text whose nodes all lean to the left, to the right, or to and fro ("z")."""
    tree = "."
    for k in range(nodes):
        left = side == "l" or side == "z" and k % 2
        tree = "(" + tree + ".)" if left else "(." + tree + ")"
    return tree


@contextlib.contextmanager
def within(seconds):
    """Fail if the rows take longer, also if they would never end."""
    def late(number, frame):
        raise AssertionError(f"longer than {seconds} seconds")
    before = signal.signal(signal.SIGALRM, late)
    signal.setitimer(signal.ITIMER_REAL, seconds)
    try:
        yield
    finally:
        signal.setitimer(signal.ITIMER_REAL, 0)
        signal.signal(signal.SIGALRM, before)
