"""Scripts of rotations: what they do on a tree, and the smallest tree on which they can be done."""

from treeturns.errors import CannotTurn, InvalidScript
from treeturns.trees import addressed, check_address, check_tree, halves, is_address, stretch

OTHER_WORD = {"left": "right", "right": "left"}
SIGN_OF = {"left": "<", "right": ">"}
WORD_OF = {"<": "left", ">": "right"}


def is_step(value):
    """Whether a value is a step."""
    if not isinstance(value, tuple) or len(value) != 2:
        return False
    return isinstance(value[0], str) and value[0] in OTHER_WORD and is_address(value[1])


def checked_script(steps):
    """The script as a new list of plain tuples and strings; InvalidScript for any other value."""
    if not isinstance(steps, list) or not all([is_step(step) for step in steps]):
        raise InvalidScript(steps)
    # A slice is a plain string, also one of an object of a derived class, which must not be returned.
    return [(word[:], address[:]) for word, address in steps]


def turned_root(tree, word):
    """The tree with a rotation at its root, or None if it cannot be done."""
    if tree == ".":
        return None
    left, right = halves(tree)
    if word == "right" and left != ".":
        outer, inner = halves(left)
        return "(" + outer + "(" + inner + right + "))"
    if word == "left" and right != ".":
        inner, outer = halves(right)
        return "((" + left + inner + ")" + outer + ")"
    return None


def after_step(tree, word, address):
    """The tree after one step, or None if it cannot be done."""
    found = stretch(tree, address)
    if found is None:
        return None
    begin, end = found
    top = turned_root(tree[begin:end], word)
    return None if top is None else tree[:begin] + top + tree[end:]


def turned(tree, steps):
    """The tree after all steps of a script."""
    check_tree(tree)
    script = checked_script(steps)
    now = tree[:]
    for index, (word, address) in enumerate(script):
        now = after_step(now, word, address)
        if now is None:
            raise CannotTurn(index)
    return now


def steps_of(tree):
    """All steps that can be done on a tree, in order."""
    check_tree(tree)
    tops = [address for address, sign in addressed(tree) if sign == "("]
    known = set(tops)
    sides = (("left", "r"), ("right", "l"))
    return [(word, address) for word, letter in sides for address in tops if address + letter in known]


class Growth:
    """A tree that is unfolded only where a script needs it.

    Its parts have numbers, the root has 0; those that are in no dict are leaves. `origin` holds the two parts of each
    node before all steps, `current` after the steps that were done.
    """

    def __init__(self):
        self.origin = {}
        self.current = {}
        self.many = 1

    def unfold(self, number):
        """Make a node of a leaf: what a step finds below a leaf must have hung there from the beginning."""
        if number not in self.current:
            pair = (self.many, self.many + 1)
            self.origin[number] = pair
            self.current[number] = pair
            self.many += 2

    def sides(self, number):
        """The two parts of what is a node afterwards."""
        self.unfold(number)
        return self.current[number]

    def turn(self, word, address):
        """Do one step, on a tree that has grown as far as the step needs it."""
        top = 0
        for letter in address:
            left, right = self.sides(top)
            top = left if letter == "l" else right
        left, right = self.sides(top)
        if word == "right":
            outer, inner = self.sides(left)
            self.current[top] = (outer, left)
            self.current[left] = (inner, right)
        else:
            inner, outer = self.sides(right)
            self.current[top] = (right, outer)
            self.current[right] = (left, inner)


def written(pairs):
    """The tree whose nodes have the parts that a dict tells, from the root 0 on."""
    signs = []
    ahead = [0]
    while ahead:
        number = ahead.pop()
        if number is None:
            signs.append(")")
        elif number in pairs:
            left, right = pairs[number]
            signs.append("(")
            ahead.extend([None, right, left])
        else:
            signs.append(".")
    return "".join(signs)


def pair_of(steps):
    """The smallest tree on which a script can be done, and what it makes of it."""
    growth = Growth()
    for word, address in checked_script(steps):
        growth.turn(word, address)
    return written(growth.origin), written(growth.current)


def opposite(steps):
    """The script that undoes another one."""
    return [(OTHER_WORD[word], address) for word, address in checked_script(steps)[::-1]]


def lowered(steps, address):
    """The script with an address put in front of all addresses."""
    script = checked_script(steps)
    check_address(address)
    return [(word, address + below) for word, below in script]


def text_of(steps):
    """The text of a script."""
    return " ".join([SIGN_OF[word] + address for word, address in checked_script(steps)])


def read_script(text):
    """The script of a text."""
    if not isinstance(text, str):
        raise InvalidScript(text)
    # A split of the empty text gives one empty piece, although there is no step.
    if text == "":
        return []
    script = []
    for piece in text.split(" "):
        if piece[:1] not in WORD_OF or not is_address(piece[1:]):
            raise InvalidScript(text)
        script.append((WORD_OF[piece[:1]], piece[1:]))
    return script
