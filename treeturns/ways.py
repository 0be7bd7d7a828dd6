"""Ways between trees: the fewest rotations that lead from one tree to another one of the same size."""

from treeturns.arms import arm_script
from treeturns.errors import InvalidNumber
from treeturns.moves import Move
from treeturns.scripts import after_step, steps_of
from treeturns.trees import check_tree, size
from treeturns.wholes import is_whole

MOST_NODES = 8


def shapes(nodes):
    """All trees with so many nodes, in order."""
    if not is_whole(nodes) or not 0 <= nodes <= MOST_NODES:
        raise InvalidNumber(nodes)
    known = [["."]]
    for many in range(1, nodes + 1):
        known.append(["(" + left + right + ")" for on_left in range(many)
                      for left in known[on_left] for right in known[many - 1 - on_left]])
    return sorted([str(tree) for tree in known[nodes]])


def turns(tree):
    """All steps that can be done on a tree, in order, each with the tree after it."""
    return [(step, after_step(tree, step[0], step[1])) for step in steps_of(tree)]


def next_level(last, level):
    """The trees one step behind a level, but for those in it and in the level before it.

    A level is a dict with the number of the shortest scripts to each tree. As each step can be undone, no step leads
    farther back than to the level before.
    """
    found = {}
    for tree, many in level.items():
        for _, other in turns(tree):
            if other not in level and other not in last:
                found[other] = found.get(other, 0) + many
    return found


def levels(starts, goal):
    """The trees at the distances 0, 1, 2 and so on from the nearest start, up to the level that holds the goal.

    The last level is empty if no step leads to the goal.
    """
    found = [{}, {tree: 1 for tree in starts}]
    while found[-1] and goal not in found[-1]:
        found.append(next_level(found[-2], found[-1]))
    return found[1:]


def check_both(one, other):
    """Raise InvalidTree for the first of two values that is no tree."""
    check_tree(one)
    check_tree(other)


def distance(one, other):
    """The fewest steps from one tree to another one, or None if their sizes differ."""
    check_both(one, other)
    return len(levels([one], other)) - 1 if size(one) == size(other) else None


def way(one, other):
    """The first in order of the shortest scripts from one tree to another one, or None if their sizes differ."""
    check_both(one, other)
    if size(one) != size(other):
        return None
    script = []
    now = one
    for nearer in levels([other], one)[-2::-1]:
        step, now = [turn for turn in turns(now) if turn[1] in nearer][0]
        script.append(step)
    return script


def all_ways(one, others):
    """All shortest scripts from one tree to the nearest of some trees of the same size, in order."""
    found = [([], one)]
    for nearer in levels(others, one)[-2::-1]:
        found = [(script + [step], tree) for script, now in found for step, tree in turns(now) if tree in nearer]
    return [script for script, tree in found]


def count_ways(one, other):
    """How many shortest scripts lead from one tree to another one; 0 if their sizes differ."""
    check_both(one, other)
    return levels([one], other)[-1][other] if size(one) == size(other) else 0


def arm_way(one, other):
    """A shortest script of arm steps from one tree to another one, or None if their sizes differ."""
    check_both(one, other)
    # Every script that leads from the one to the other is alike to the move of both.
    return arm_script(Move(one, other)) if size(one) == size(other) else None


def farthest(tree):
    """The greatest distance of a tree of the same size, and all trees at this distance, in order."""
    check_tree(tree)
    found = levels([tree[:]], None)
    return len(found) - 2, sorted([str(other) for other in found[-2]])
