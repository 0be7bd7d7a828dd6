"""Trees, the addresses of their parts, and how a tree grows into another one.

Trees are read from left to right with a stack of one's own, never by recursion: they may lean to one side
for hundreds of nodes. No function here changes a list that it did not create, so that operators may call all of them.
"""

from treeturns.errors import InvalidAddress, InvalidList, InvalidTree


def is_tree(value):
    """Whether a value is a tree."""
    if not isinstance(value, str):
        return False
    awaited = ["tree"]
    for sign in value:
        want = awaited.pop() if awaited else "end"
        if want == "tree" and sign == "(":
            awaited.extend([")", "tree", "tree"])
        elif want != sign and not (want == "tree" and sign == "."):
            return False
    return not awaited


def is_address(value):
    """Whether a value is an address, of whatever tree."""
    return isinstance(value, str) and value.count("l") + value.count("r") == len(value)


def check_tree(value):
    """Raise InvalidTree for anything but a tree."""
    if not is_tree(value):
        raise InvalidTree(value)


def check_address(value):
    """Raise InvalidAddress for anything but an address."""
    if not is_address(value):
        raise InvalidAddress(value)


def size(tree):
    """The number of nodes."""
    check_tree(tree)
    return tree.count("(")


def height(tree):
    """The number of nodes on the longest way down."""
    check_tree(tree)
    depth = deepest = 0
    for sign in tree:
        if sign == "(":
            depth += 1
            if depth > deepest:
                deepest = depth
        elif sign == ")":
            depth -= 1
    return deepest


def ends(tree):
    """A list that has, at each index where a part begins in the text, the index behind this part."""
    behind = [0] * len(tree)
    begun = []
    for at, sign in enumerate(tree):
        if sign == "(":
            begun.append(at)
        elif sign == ")":
            behind[begun.pop()] = at + 1
        else:
            behind[at] = at + 1
    return behind


def halves(tree):
    """The left and the right part of a node."""
    middle = ends(tree)[1]
    return tree[1:middle], tree[middle:-1]


def stretch(tree, address):
    """Where the part at an address begins and ends in the text, or None beyond a leaf."""
    behind = ends(tree)
    at = 0
    for letter in address:
        if tree[at] == ".":
            return None
        at = at + 1 if letter == "l" else behind[at + 1]
    return at, behind[at]


def checked_stretch(tree, address):
    """The stretch of a part; InvalidAddress for any value that leads to none."""
    check_address(address)
    found = stretch(tree, address)
    if found is None:
        raise InvalidAddress(address)
    return found


def part(tree, address):
    """The tree at an address."""
    check_tree(tree)
    begin, end = checked_stretch(tree, address)
    return tree[begin:end]


def addressed(tree):
    """A tuple of address and first sign for each part, in the order of the addresses.

    This is the order in which the parts begin in the text, so nothing has to be sorted.
    """
    found = []
    ahead = [""]
    for sign in tree.replace(")", ""):
        address = ahead.pop()
        found.append((address, sign))
        if sign == "(":
            ahead.extend([address + "r", address + "l"])
    return found


def leaves(tree):
    """The addresses of all leaves, from left to right."""
    check_tree(tree)
    return [address for address, sign in addressed(tree) if sign == "."]


def from_leaves(addresses):
    """The tree whose leaves have these addresses, from left to right."""
    # A node begins in front of the leaf to which `l` alone leads from it, and ends behind the one of `r` alone.
    begun = [len(address) - len(address.rstrip("l")) for address in addresses]
    ended = [len(address) - len(address.rstrip("r")) for address in addresses]
    return "".join(["(" * opening + "." + ")" * closing for opening, closing in zip(begun, ended)])


def wrapped(tree, address):
    """The smallest tree that has a given one as its part at an address."""
    ahead = address.replace("l", "(").replace("r", "(.")
    behind = address[::-1].replace("l", ".)").replace("r", ")")
    return ahead + tree + behind


def nodes(tree):
    """The addresses of all nodes, from left to right."""
    # Node k is the one whose right part begins, on the left, with leaf k.
    return [address.rstrip("l")[:-1] for address in leaves(tree)[1:]]


def replaced(tree, address, other):
    """The tree with another one in the place of the part at an address."""
    check_tree(tree)
    begin, end = checked_stretch(tree, address)
    check_tree(other)
    return tree[:begin] + other + tree[end:]


def check_hung(tree, trees):
    """Raise InvalidList for anything but a list of trees, one for each leaf."""
    if not isinstance(trees, list) or len(trees) != tree.count("."):
        raise InvalidList(trees)
    if not all([is_tree(item) for item in trees]):
        raise InvalidList(trees)


def grown(tree, hung):
    """What the tree becomes when its leaves give place to the trees of a list."""
    check_tree(tree)
    check_hung(tree, hung)
    texts = tree.split(".")
    return texts[0] + "".join([item + text for item, text in zip(hung, texts[1:])])


def hung(tree, top):
    """The list with which the top grows into the tree, or None."""
    check_tree(tree)
    check_tree(top)
    behind = ends(tree)
    found = []
    at = 0
    for sign in top:
        if sign == ".":
            found.append(tree[at:behind[at]])
            at = behind[at]
        elif sign == tree[at]:
            at += 1
        else:
            return None
    return found


def joined(one, other):
    """The tree with the fewest nodes into which both trees grow."""
    top = shared(one, other)
    # At each leaf of the shared top at least one of the two trees has a leaf as well.
    return grown(top, [its if mine == "." else mine for mine, its in zip(hung(one, top), hung(other, top))])


def shared(one, other):
    """The tree with the most nodes that grows into both trees."""
    check_tree(one)
    check_tree(other)
    behind_one, behind_other = ends(one), ends(other)
    signs = []
    at = to = 0
    while at < len(one):
        if one[at] == other[to]:
            signs.append(one[at])
            at += 1
            to += 1
        else:
            signs.append(".")
            at = behind_one[at]
            to = behind_other[to]
    return "".join(signs)
