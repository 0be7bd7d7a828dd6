"""A tree under change, whose deeds can be undone one by one."""

from treeturns.errors import NothingToUndo
from treeturns.moves import check_move, moved
from treeturns.scripts import text_of, turned
from treeturns.trees import check_tree, is_address, nodes, part, replaced, stretch


class Bush:
    """A bush holds a tree, and each deed that changed it with the tree before it."""

    def __init__(self, tree):
        check_tree(tree)
        # A slice is a plain string, also one of an object of a derived class, which must not be returned.
        self._tree = tree[:]
        self._deeds = []

    def tree(self):
        """The tree that the bush holds."""
        return self._tree

    def __getitem__(self, at):
        return part(self._tree, at)

    def __setitem__(self, at, worth):
        after = replaced(self._tree, at, worth)
        self._deeds.append((("put", at[:], worth[:]), self._tree))
        self._tree = after

    def __imul__(self, other):
        check_move(other)
        # An operator calls no object, so the move is done without a call of it.
        after = moved(self._tree, other.before, other.after)
        self._deeds.append((("move", other.before, other.after), self._tree))
        self._tree = after
        return self

    def do(self, steps):
        """Do a script."""
        after = turned(self._tree, steps)
        self._deeds.append((("script", text_of(steps)), self._tree))
        self._tree = after

    def back(self):
        """Undo the last deed that has not been undone."""
        if len(self._deeds) == 0:
            raise NothingToUndo()
        _, self._tree = self._deeds.pop()

    def log(self):
        """The deeds that have not been undone, from the first to the last."""
        return [deed for deed, before in self._deeds]

    def copy(self):
        """An independent bush with the same tree and the same deeds to undo."""
        twin = Bush(self._tree)
        twin._deeds = list(self._deeds)
        return twin

    def __len__(self):
        return len(nodes(self._tree))

    def __contains__(self, x):
        return is_address(x) and stretch(self._tree, x) is not None

    def __iter__(self):
        raise TypeError("a bush is asked by addresses, not iterated over")

    def __eq__(self, other):
        return isinstance(other, Bush) and self._tree == other._tree
