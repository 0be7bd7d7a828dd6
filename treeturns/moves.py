"""Moves: what a script does on all trees on which it can be done, as a pair of trees of the same size."""

from treeturns.errors import CannotMove, InvalidMove
from treeturns.scripts import pair_of
from treeturns.trees import check_address, check_tree, from_leaves, grown, hung, joined, leaves, wrapped
from treeturns.wholes import check_whole


def moved(tree, before, after):
    """What the move of two trees makes of a tree; CannotMove if it cannot be done."""
    trees = hung(tree, before)
    if trees is None:
        raise CannotMove(tree)
    return grown(after, trees)


class Move:
    """A move makes of every tree into which `before` grows what `after` grows into by the same list."""

    def __init__(self, before, after):
        check_tree(before)
        check_tree(after)
        if before.count("(") != after.count("("):
            raise InvalidMove((before, after))
        # A slice is a plain string, also one of an object of a derived class, which must not be returned.
        self._before = before[:]
        self._after = after[:]

    @staticmethod
    def of(steps):
        """The move that a script does."""
        before, after = pair_of(steps)
        return Move(before, after)

    @property
    def before(self):
        """The smallest tree on which the move can be done."""
        return self._before

    @property
    def after(self):
        """What the move makes of `before`."""
        return self._after

    def __call__(self, tree):
        """The result of the move on a tree."""
        return moved(tree, self._before, self._after)

    def can(self, tree):
        """Whether the move can be done on a tree."""
        return hung(tree, self._before) is not None

    def __eq__(self, other):
        return isinstance(other, Move) and self._before == other._before and self._after == other._after

    def __repr__(self):
        return f"Move({self._before!r}, {self._after!r})"

    def __mul__(self, other):
        if not isinstance(other, Move):
            return NotImplemented
        # Between the two moves stands the smallest tree that the one can leave and on which the other can be done.
        middle = joined(self._after, other._before)
        before = grown(self._before, hung(middle, self._after))
        return Move(before, grown(other._after, hung(middle, other._before)))

    def __invert__(self):
        return Move(self._after, self._before)

    def times(self, count):
        """The move done so often, one after another; for a negative count what undoes it."""
        check_whole(count)
        if count != 0 and self._before == self._after:
            # Whatever the count is, however many digits it has, nothing is changed and nothing more is needed.
            return Move(self._before, self._after)
        once = self if count > 0 else ~self
        done = Move(".", ".")
        # From the highest digit on, no move on the way has more nodes than the last one.
        for place in reversed(range(count.bit_length())):
            done = done * done
            if (abs(count) >> place) & 1:
                done = done * once
        return done

    def __le__(self, other):
        if not isinstance(other, Move):
            return NotImplemented
        trees = hung(self._before, other._before)
        return trees is not None and trees == hung(self._after, other._after)

    def __lt__(self, other):
        if not isinstance(other, Move):
            return NotImplemented
        return self <= other and not self == other

    def __ge__(self, other):
        if not isinstance(other, Move):
            return NotImplemented
        return other <= self

    def __gt__(self, other):
        if not isinstance(other, Move):
            return NotImplemented
        return other < self

    def under(self, address):
        """The move that does this one on the part at an address."""
        check_address(address)
        return Move(wrapped(self._before, address), wrapped(self._after, address))


def check_move(value):
    """Raise InvalidMove for anything but a move."""
    if not isinstance(value, Move):
        raise InvalidMove(value)


def alike(one, other):
    """Whether two moves do the same on every tree on which both can be done."""
    return parting(one, other) is None


def parting(one, other):
    """The smallest tree on which both moves can be done and its two results, or None if these are equal."""
    check_move(one)
    check_move(other)
    tree = joined(one.before, other.before)
    first, second = one(tree), other(tree)
    return None if first == second else (tree, first, second)


def left_beside(address):
    """The address of the left part of the node of which an address leads to the right part, or None."""
    return address[:-1] + "l" if address.endswith("r") else None


def paired(move):
    """The addresses of the leaves of the same number in both trees of the widest move, from left to right."""
    check_move(move)
    found = []
    for source, target in zip(leaves(move.before), leaves(move.after)):
        while found and found[-1] == (left_beside(source), left_beside(target)):
            found.pop()
            source, target = source[:-1], target[:-1]
        found.append((source, target))
    return found


def widest(move):
    """The greatest of all moves that are alike to a move."""
    pairs = paired(move)
    return Move(from_leaves([source for source, target in pairs]), from_leaves([target for source, target in pairs]))


def unmoved(move):
    """The addresses at and below which every part stays where it is, from left to right."""
    return [source for source, target in paired(move) if source == target]
