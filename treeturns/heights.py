"""Heights: balanced trees, how moves change heights and balance, and the shortest scripts that mend it."""

from treeturns.errors import InvalidList, InvalidNumber
from treeturns.moves import check_move
from treeturns.trees import check_tree, leaves, size
from treeturns.ways import all_ways, next_level
from treeturns.wholes import check_whole, is_whole

MOST_ROWS = 60
MOST_STEPS = 6
OTHER_LETTER = {"l": "r", "r": "l"}


def check_not_negative(value):
    """Raise InvalidNumber for anything but a whole number of at least 0."""
    if not is_whole(value) or value < 0:
        raise InvalidNumber(value)


def check_row(tree, value):
    """Raise InvalidList for anything but a row of heights for a tree."""
    if not isinstance(value, list) or len(value) != tree.count("."):
        raise InvalidList(value)
    if not all([is_whole(item) and item >= 0 for item in value]):
        raise InvalidList(value)


def folded(tree, items, join):
    """What a tree makes of a list with an item for each leaf, if each node joins the items of its two parts."""
    waiting = []
    used = 0
    for sign in tree:
        if sign == ".":
            waiting.append(items[used])
            used += 1
        elif sign == ")":
            right = waiting.pop()
            left = waiting.pop()
            waiting.append(join(left, right))
    return waiting[0]


def node_leans(left, right):
    """The height of a node and the leans of all nodes from there on, of the same tuples of its two parts."""
    return 1 + max(int(left[0]), int(right[0])), left[1] + [left[0] - right[0]] + right[1]


def leans_with(tree, heights):
    """The leans of a tree with a row of heights."""
    _, found = folded(tree, [(height, []) for height in heights], node_leans)
    return found


def fits_with(tree, heights, slack):
    """Whether a tree is balanced with a row of heights."""
    return all([-slack <= lean <= slack for lean in leans_with(tree, heights)])


def is_balanced(tree, slack):
    """Whether the heights of the two parts of each node differ by at most the slack."""
    check_tree(tree)
    check_not_negative(slack)
    return fits_with(tree, [0] * tree.count("."), slack)


def fewest_nodes(height, slack):
    """The list of the fewest nodes of balanced trees of the heights from 0 to a greatest one."""
    found = [0]
    for high in range(1, height + 1):
        # One part has to be as high as can be, the other one only as high as the slack demands.
        low = high - 1 - slack
        found.append(1 + found[high - 1] + (found[low] if low > 0 else 0))
    return found


def least_nodes(height, slack):
    """The fewest nodes that a balanced tree of a height can have."""
    check_not_negative(height)
    check_not_negative(slack)
    return fewest_nodes(height, slack)[height]


def fits(tree, heights, slack):
    """Whether a tree grown by balanced trees of these heights is balanced."""
    check_tree(tree)
    check_row(tree, heights)
    check_not_negative(slack)
    return fits_with(tree, heights, slack)


def leans(tree, heights):
    """For each node the height of its left part less that of its right part, with these heights at the leaves."""
    check_tree(tree)
    check_row(tree, heights)
    return leans_with(tree, heights)


def depths(tree):
    """For each leaf the number of nodes above it."""
    return [len(address) for address in leaves(tree)]


def least(numbers):
    """The least number of a list."""
    return min([int(number) for number in numbers])


def greatest(numbers):
    """The greatest number of a list."""
    return max([int(number) for number in numbers])


def sinks(move):
    """For each leaf how much deeper it is after a move."""
    return [later - earlier for earlier, later in zip(depths(move.before), depths(move.after))]


def change(move):
    """The least and the greatest amount by which a move can change the height of a tree."""
    check_move(move)
    # Both heights are settled by a leaf at which by far the highest tree hangs.
    return least(sinks(move)), greatest(sinks(move))


def change_nodes(move, amount):
    """The fewest nodes of a tree of which a move changes the height by exactly an amount, or None."""
    check_move(move)
    check_whole(amount)
    earlier, later, sunk = depths(move.before), depths(move.after), sinks(move)
    # The lowest height before the move at which neither this one nor the one afterwards is too low for the two trees.
    top = greatest([greatest(earlier), greatest(later) - amount])
    # One leaf has to reach this height, one the height afterwards. One of the two does so without anything below it,
    # and nothing has to hang at the others.
    first = [top - deep for deep, sink in zip(earlier, sunk) if sink <= amount]
    last = [top + amount - deep for deep, sink in zip(later, sunk) if sink >= amount]
    return size(move.before) + least(first) + least(last) if first and last else None


def node_range(left, right, slack):
    """The least and the greatest height of a balanced node, of those of its two parts, or None if there is none."""
    if left is None or right is None:
        return None
    lows = [int(left[0]), int(right[0])]
    highs = [int(left[1]), int(right[1])]
    if lows[0] > highs[1] + slack or lows[1] > highs[0] + slack:
        return None
    return 1 + greatest(lows), 1 + least([greatest(highs), least(highs) + slack])


def height_range(tree, ranges, slack):
    """The least and the greatest height of a balanced tree with heights in a range for each leaf, or None.

    All heights between these two can be reached as well.
    """
    known = [(low, high) if low <= high else None for low, high in ranges]
    return folded(tree, known, lambda left, right: node_range(left, right, slack))


def farthest_apart(move, slack):
    """No two heights of a row differ by more than this if the tree before a move is balanced with it."""
    return (1 + slack) * size(move.before)


def excesses(move, slack):
    """All ways in which one part of a node can be too high for the other one after a move.

    Each is a tuple of the number of a leaf that reaches the height of the one part, and of a list with an item for each
    leaf: how much higher than this leaf it may be if it belongs to the other part (less than 0: it must be lower), None
    if it does not.
    """
    addresses = leaves(move.after)
    found = []
    for leaf, address in enumerate(addresses):
        for above in range(len(address)):
            beside = address[:above] + OTHER_LETTER[address[above]]
            found.append((leaf, [len(address) - len(other) - slack - 1 if other.startswith(beside) else None
                                 for other in addresses]))
    return found


def ranges_of(excess, height, far):
    """For each leaf the range of heights with which there is an excess, if the leaf that causes it has this height."""
    leaf, gaps = excess
    found = [(0, height + far) if gap is None else (0, height + gap) for gap in gaps]
    found[leaf] = (height, height)
    return found


def possible_excesses(move, slack):
    """All excesses after a move that can occur if the tree before it is balanced."""
    # Whatever is possible is possible with a leaf of this height: no other height gets below 0 then.
    far = farthest_apart(move, slack)
    return [excess for excess in excesses(move, slack)
            if height_range(move.before, ranges_of(excess, far, far), slack) is not None]


def keeps(move, slack):
    """Whether every balanced tree on which a move can be done is balanced afterwards."""
    check_move(move)
    check_not_negative(slack)
    return not possible_excesses(move, slack)


def node_rows(left, right, slack, most):
    """A dict of the best tuple for each height of a balanced node, of the same dicts of its two parts.

    A tuple holds a number of nodes that hang at the leaves, and their row of heights; the best one has the fewest
    nodes, and of several rows the first in order. Tuples with more than `most` nodes are left out.
    """
    found = {}
    for height, (many, row) in left.items():
        for other in range(height - slack, height + slack + 1):
            if other in right and (most is None or many + right[other][0] <= most):
                both = (many + right[other][0], row + right[other][1])
                top = 1 + max(int(height), int(other))
                if top not in found or both < found[top]:
                    found[top] = both
    return found


def best_row(tree, ranges, slack, best):
    """The best tuple for a tree that is balanced with heights in these ranges, if it is better than another one."""
    if height_range(tree, ranges, slack) is None:
        return best
    most = None if best is None else best[0]
    counts = fewest_nodes(greatest([high for low, high in ranges]), slack)
    tables = [{height: (counts[height], [height]) for height in range(low, high + 1)
               if most is None or counts[height] <= most} for low, high in ranges]
    known = folded(tree, tables, lambda left, right: node_rows(left, right, slack, most))
    for found in known.values():
        if best is None or found < best:
            best = found
    return best


def spoiled(move, slack):
    """The first row of heights with the fewest nodes that is balanced before a move and not afterwards, or None."""
    check_move(move)
    check_not_negative(slack)
    possible = possible_excesses(move, slack)
    far = farthest_apart(move, slack)
    best = None
    height = 0
    while possible and (best is None or fewest_nodes(height, slack)[height] <= best[0]):
        for excess in possible:
            best = best_row(move.before, ranges_of(excess, height, far), slack, best)
        height += 1
    return None if best is None else best[1]


def balanced_change(move, slack):
    """The least and the greatest amount by which a move can change the height of a balanced tree."""
    check_move(move)
    check_not_negative(slack)
    # If the height afterwards is taken as 0, one leaf is as high as its depth allows, and the others not far below it.
    lowest = -size(move.after) - farthest_apart(move, slack)
    _, highest = height_range(move.before, [(lowest, -deep) for deep in depths(move.after)], slack)
    # If both parts of every node have the same height, all leaves reach the height before: also that which sinks most.
    return -highest, greatest(sinks(move))


def all_lowered(rows, by):
    """The rows with all heights lowered."""
    return [[height - by for height in row] for row in rows]


def rise(left, right, lean, slack):
    """How much higher a node is after a change, of the same of its two parts; None for what is balanced no longer."""
    if left is None or right is None or abs(lean + left - right) > slack:
        return None
    return max(int(lean + left), int(right)) - max(0, lean)


def node_spoils(left, right, slack):
    """A dict of the rows with which a node is balanced and 0 high, of the same dicts of its two parts.

    Its keys are the rises of the node if the height at a leaf is changed. In a part with this leaf nothing has the key
    0, as a change that is not felt in a part spoils nothing above it.
    """
    untouched = 0 in left and 0 in right
    found = {}
    for lean in range(-slack, slack + 1):
        for left_rise, left_rows in left.items():
            for right_rise, right_rows in right.items():
                key = rise(left_rise, right_rise, lean, slack)
                if untouched or key != 0:
                    ahead, behind = all_lowered(left_rows, 1 - min(0, lean)), all_lowered(right_rows, 1 + max(0, lean))
                    found.setdefault(key, []).extend([row + other for row in ahead for other in behind])
    return found


def in_order(rows):
    """The rows in order."""
    # Texts of the same length stand in the order of the numbers that they tell.
    known = {" ".join([f"{height:09d}" for height in row]): row for row in rows}
    return [known[text] for text in sorted([str(text) for text in known])]


def spoils(tree, leaf, by, slack):
    """All lowest rows with which a tree is balanced, but not if the height at a leaf is changed by 1 or -1."""
    check_tree(tree)
    many = tree.count(".")
    if not is_whole(leaf) or not 0 <= leaf < many:
        raise InvalidNumber(leaf)
    if not is_whole(by) or by not in (-1, 1):
        raise InvalidNumber(by)
    check_not_negative(slack)
    items = [{by if number == leaf else 0: [[0]]} for number in range(many)]
    known = folded(tree, items, lambda left, right: node_spoils(left, right, slack))
    found = []
    for row in known.get(None, []):
        # A height of 0 cannot be lowered, so the row is lowest that has a 0 before the change or after it.
        lowest = least(row + [row[leaf] + by])
        found.append([height - lowest for height in row])
    return in_order(found)


def fits_all(tree, rows, slack):
    """Whether a tree is balanced with each of some rows of heights."""
    for row in rows:
        if not fits_with(tree, row, slack):
            return False
    return True


def mends(tree, rows, slack, most):
    """All scripts of the fewest steps after which a tree is balanced with each of some rows of heights, in order."""
    check_tree(tree)
    if not isinstance(rows, list) or not 1 <= len(rows) <= MOST_ROWS:
        raise InvalidList(rows)
    for row in rows:
        check_row(tree, row)
    check_not_negative(slack)
    if not is_whole(most) or not 0 <= most <= MOST_STEPS:
        raise InvalidNumber(most)
    last, level = {}, {tree[:]: 1}
    for _ in range(most + 1):
        mended = [other for other in level if fits_all(other, rows, slack)]
        if mended:
            return all_ways(tree[:], mended)
        last, level = level, next_level(last, level)
    return []
