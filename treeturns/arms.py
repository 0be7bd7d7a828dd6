"""The right arm: scripts of steps on it, the numbers that tell a move, and the shortest scripts at a few places."""

from treeturns.errors import InvalidList, InvalidNumber
from treeturns.moves import Move, widest
from treeturns.scripts import opposite
from treeturns.trees import is_address, leaves, size
from treeturns.wholes import is_whole

MOST_TURNS = 60
MOST_PLACES = 3
MOST_LETTERS = 4
MOST_STEPS = 5


def off_arm(tree):
    """The number of nodes that are not on the right arm."""
    # The nodes of the right arm are those that end with the whole tree.
    return size(tree) - (len(tree) - len(tree.rstrip(")")))


def begun_off_arm(address):
    """The number of nodes off the right arm whose leftmost leaf has this address."""
    top = address.rstrip("l")
    begun = len(address) - len(top)
    on_arm = begun > 0 and "l" not in top
    return begun - 1 if on_arm else begun


def counts(tree):
    """For each leaf the number of nodes off the right arm whose leftmost leaf it is."""
    return [begun_off_arm(address) for address in leaves(tree)]


def arm_steps(numbers):
    """The script with so many steps to the right at each node of the right arm, one node after another.

    With the counts of a tree it brings all nodes of the tree to the arm.
    """
    return [("right", "r" * index) for index, many in enumerate(numbers) for _ in range(many)]


def arm_script(move):
    """A shortest script of arm steps whose move is alike to a move."""
    wide = widest(move)
    return arm_steps(counts(wide.before)) + opposite(arm_steps(counts(wide.after)))


def are_turns(value):
    """Whether a value is a list that tells how often to turn at each node of the right arm."""
    if not isinstance(value, list) or not all([is_whole(item) and item >= 0 for item in value]):
        return False
    return sum(value) <= MOST_TURNS


def from_counts(ups, downs):
    """The widest move that brings nodes to the right arm as the one list tells, and takes them off as the other."""
    for numbers in (ups, downs):
        if not are_turns(numbers):
            raise InvalidList(numbers)
    return widest(Move.of(arm_steps(ups) + opposite(arm_steps(downs))))


def trimmed(numbers):
    """The list without the zeros at its end."""
    many = len(numbers)
    while many > 0 and numbers[many - 1] == 0:
        many -= 1
    return numbers[:many]


def normal(move):
    """The two lists of counts that tell a move from all moves that are not alike to it."""
    wide = widest(move)
    return trimmed(counts(wide.before)), trimmed(counts(wide.after))


def are_places(value):
    """Whether a value is a list of a few different places near the root."""
    if not isinstance(value, list) or not 1 <= len(value) <= MOST_PLACES:
        return False
    if not all([is_address(item) and len(item) <= MOST_LETTERS for item in value]):
        return False
    return len(set(value)) == len(value)


def steps_at(places):
    """All steps at these places, in order."""
    ordered = sorted([str(place) for place in places])
    return [(word, place) for word in ("left", "right") for place in ordered]


def key_of(wide):
    """A widest move as a key of a dict; equal keys tell moves that are alike."""
    return wide.before, wide.after


def next_row(row, steps, known):
    """What one step more leads to and no script before did, in the order of the first scripts.

    A row holds tuples of a widest move and the first script to it. The keys of what is found are added to the known.
    """
    turns = [(step, Move.of([step])) for step in steps]
    found = []
    for move, script in row:
        for step, turn in turns:
            wide = widest(move * turn)
            if key_of(wide) not in known:
                known[key_of(wide)] = True
                found.append((wide, script + [step]))
    return found


def shortest(move, places, most):
    """The first of the shortest scripts at a few places whose move is alike to a move, or None."""
    wide = widest(move)
    if not are_places(places):
        raise InvalidList(places)
    if not is_whole(most) or not 0 <= most <= MOST_STEPS:
        raise InvalidNumber(most)
    still = Move(".", ".")
    if wide == still:
        return []
    steps = steps_at(places)
    # From these one step leads to the move, so what lies behind the last step need not be found.
    last = {key_of(widest(wide * ~Move.of([step]))): step for step in steps}
    row = [(still, [])]
    known = {key_of(still): True}
    for many in range(most):
        if many > 0:
            row = next_row(row, steps, known)
        for reached, script in row:
            if key_of(reached) in last:
                return script + [last[key_of(reached)]]
    return None
