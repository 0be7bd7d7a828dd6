"""The errors of the package; their fields hold what was wrong, as it was passed."""


class TurnError(ValueError):
    """What all errors of the package have in common."""


class InvalidTree(TurnError):
    """An argument that has to be a tree is none."""

    def __init__(self, value=None):
        self.value = value


class InvalidAddress(TurnError):
    """An argument that has to be an address, or one that leads to a part, is none."""

    def __init__(self, value=None):
        self.value = value


class InvalidNumber(TurnError):
    """A number or a fraction does not fit."""

    def __init__(self, value=None):
        self.value = value


class InvalidList(TurnError):
    """A list does not fit."""

    def __init__(self, value=None):
        self.value = value


class InvalidScript(TurnError):
    """An argument that has to be a script, or its text, is none."""

    def __init__(self, value=None):
        self.value = value


class InvalidMove(TurnError):
    """An argument that has to be a move is none."""

    def __init__(self, value=None):
        self.value = value


class CannotTurn(TurnError):
    """A step of a script cannot be done; the place is its index."""

    def __init__(self, place=None):
        self.place = place


class CannotMove(TurnError):
    """A move cannot be done on a tree."""

    def __init__(self, value=None):
        self.value = value


class NotCarried(TurnError):
    """A part is not carried as a whole by a move."""

    def __init__(self, address=None):
        self.address = address


class InvalidName(TurnError):
    """A name has not the form of one."""

    def __init__(self, name=None):
        self.name = name


class TakenName(TurnError):
    """A name is kept already."""

    def __init__(self, name=None):
        self.name = name


class UnknownName(TurnError):
    """A name is not kept."""

    def __init__(self, name=None):
        self.name = name


class NothingToUndo(TurnError):
    """Nothing has been done that could be undone."""

