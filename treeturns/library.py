"""Libraries of moves, which keep moves by names and can undo what was done to them one by one."""

from treeturns.errors import InvalidName, NothingToUndo, TakenName, UnknownName
from treeturns.moves import Move, alike, check_move

LETTERS = "abcdefghijklmnopqrstuvwxyz"
LONGEST = 8


def is_name(value):
    """Whether a value has the form of a name."""
    return isinstance(value, str) and 1 <= len(value) <= LONGEST and all([letter in LETTERS for letter in value])


class Library:
    """A library keeps moves by names, and each step that was done with the move that the name had before it."""

    def __init__(self):
        self._moves = {}
        self._steps = []

    def put(self, name, move):
        """Keep one more move."""
        if not is_name(name):
            raise InvalidName(name)
        if name in self._moves:
            raise TakenName(name)
        check_move(move)
        self._steps.append(("put", name[:], None))
        self._keep(name, move)

    def drop(self, name):
        """Take a move out."""
        self._check_kept(name)
        self._steps.append(("drop", name[:], self._moves.pop(name)))

    def change(self, name, move):
        """Replace a move."""
        self._check_kept(name)
        check_move(move)
        self._steps.append(("change", name[:], self._moves[name]))
        self._keep(name, move)

    def _keep(self, name, move):
        # Neither a string nor a move of a derived class must be returned later.
        self._moves[name[:]] = Move(move.before, move.after)

    def _check_kept(self, name):
        if name not in self:
            raise UnknownName(name)

    def move(self, name):
        """The move that is kept by a name."""
        self._check_kept(name)
        return self._moves[name]

    def together(self, *names):
        """The kept moves of some names, done one after another."""
        for name in names:
            self._check_kept(name)
        done = Move(".", ".")
        for name in names:
            done = done * self._moves[name]
        return done

    def alike_to(self, move):
        """The names of all kept moves that are alike to a move, in order."""
        check_move(move)
        return [name for name in self.names() if alike(self._moves[name], move)]

    def names(self):
        """All names in order."""
        return sorted([str(name) for name in self._moves])

    def back(self):
        """Undo the last step that has not been undone."""
        if len(self._steps) == 0:
            raise NothingToUndo()
        _, name, before = self._steps.pop()
        if before is None:
            del self._moves[name]
        else:
            self._moves[name] = before

    def log(self):
        """The steps that have not been undone, from the first to the last."""
        return [(word, name) for word, name, before in self._steps]

    def copy(self):
        """An independent library with the same moves by the same names and the same steps to undo."""
        twin = Library()
        twin._moves = dict(self._moves)
        twin._steps = list(self._steps)
        return twin

    def __len__(self):
        return len(self._moves)

    def __contains__(self, x):
        return isinstance(x, str) and x in self._moves

    def __eq__(self, other):
        return isinstance(other, Library) and self._moves == other._moves
