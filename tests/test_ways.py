"""Promises [70] and [71]."""

import itertools
import random
import unittest

import oracle
from treeturns.arms import arm_script
from treeturns.errors import InvalidNumber, InvalidTree
from treeturns.moves import Move
from treeturns.scripts import opposite, turned
from treeturns.trees import size
from treeturns.ways import arm_way, count_ways, distance, farthest, shapes, way

CALLS = (distance, way, count_ways, arm_way)
# By trying: for each tree of up to 5 nodes, all shortest scripts to each tree of its size, in order.
SHORTEST = {}


def shortest_from(one):
    """The dict of all shortest scripts from a text to each text of the same size, by trying all scripts."""
    if one not in SHORTEST:
        found = {}
        reached = [([], oracle.read(one))]
        while reached:
            level = {}
            for script, tree in reached:
                level.setdefault(oracle.text(tree), []).append(script)
            fresh = {text: sorted(scripts) for text, scripts in level.items() if text not in found}
            found.update(fresh)
            # A script that begins with no shortest one is none, so it need not be followed.
            reached = [(script + [step], result) for script, tree in reached if oracle.text(tree) in fresh
                       for step, result in oracle.steps_from(tree)]
        SHORTEST[one] = found
    return SHORTEST[one]


def pairs(most):
    """All pairs of texts of the same size of at most so many nodes."""
    for nodes in range(most + 1):
        yield from itertools.product([oracle.text(tree) for tree in oracle.shapes(nodes)], repeat=2)


class Example(unittest.TestCase):

    def test_as_it_stands(self):
        self.assertEqual(
            [len(shapes(4)), distance("(((..).).)", "(.(.(..)))"), way("((.(..)).)", "(.((..).))"),
             count_ways("((..)(..))", "((..)(..))"), farthest("((..).)")],
            [14, 2, [('right', '')], 1, (1, ['(.(..))'])])


class Shapes(unittest.TestCase):
    """[70]"""

    def test_all_in_order(self):
        self.assertEqual([shapes(0), shapes(1), shapes(2)], [["."], ["(..)"], ["((..).)", "(.(..))"]])
        for nodes in range(9):
            found = shapes(nodes)
            self.assertEqual(found, sorted(oracle.text(tree) for tree in oracle.shapes(nodes)))
            self.assertEqual({type(tree) for tree in found}, {str})
        self.assertEqual([len(shapes(nodes)) for nodes in range(9)], [1, 1, 2, 5, 14, 42, 132, 429, 1430])

    def test_each_list_is_new(self):
        first = shapes(3)
        del first[:]
        self.assertEqual(len(shapes(3)), 5)

    def test_other_values(self):
        for wrong in [wrong for wrong in oracle.WRONG if wrong is True or wrong not in (0, 1, 7)] + [False, -1, 9, "3"]:
            with self.assertRaises(InvalidNumber) as caught:
                shapes(wrong)
            self.assertIs(caught.exception.value, wrong)


class Ways(unittest.TestCase):
    """[70]"""

    def test_by_trying_all_scripts(self):
        for one, other in pairs(4):
            expected = shortest_from(one)[other]
            self.assertEqual(distance(one, other), len(expected[0]))
            self.assertEqual(way(one, other), expected[0])
            self.assertEqual(count_ways(one, other), len(expected))

    def test_trees_of_five_nodes(self):
        for one, other in list(pairs(5))[::11]:
            expected = shortest_from(one)[other]
            self.assertEqual([distance(one, other), way(one, other), count_ways(one, other)],
                             [len(expected[0]), expected[0], len(expected)])

    def test_a_tree_and_itself(self):
        for tree in oracle.texts(6):
            self.assertEqual([distance(tree, tree), way(tree, tree), count_ways(tree, tree), arm_way(tree, tree)],
                             [0, [], 1, []])

    def test_sizes_that_differ(self):
        for one, other in itertools.permutations([".", "(..)", "((..).)", "(.((..).))", oracle.leaning(300, "z")], 2):
            self.assertEqual([call(one, other) for call in CALLS], [None, None, 0, None])

    def test_larger_trees(self):
        chance = random.Random(70)
        for nodes in (6, 7, 8):
            for _ in range(6):
                one, other = oracle.any_tree(nodes, chance), oracle.any_tree(nodes, chance)
                script = way(one, other)
                self.assertEqual(turned(one, script), other)
                self.assertEqual([distance(one, other), distance(other, one)], [len(script)] * 2)
                self.assertEqual(turned(other, opposite(script)), one)
                self.assertEqual(count_ways(one, other), count_ways(other, one))
                if script:
                    # One step less from each tree between them, and the first step that gets nearer is taken.
                    nearer = [(step, oracle.text(result)) for step, result in oracle.steps_from(oracle.read(one))]
                    nearer = [(step, text) for step, text in nearer if distance(text, other) == len(script) - 1]
                    self.assertEqual(nearer[0][0], script[0])
                    self.assertEqual(sum(count_ways(text, other) for _, text in nearer), count_ways(one, other))

    def test_values_that_are_no_trees(self):
        for call in CALLS:
            for wrong in oracle.WRONG:
                for given in ((wrong, [wrong]), (wrong, "(..)"), (".", wrong), ("((..).)", wrong)):
                    with self.assertRaises(InvalidTree) as caught:
                        call(*given)
                    self.assertIs(caught.exception.value, wrong)


class ArmWays(unittest.TestCase):
    """[71]"""

    def test_arm_steps_alone_and_as_few_as_can_be(self):
        for one in oracle.texts(5):
            # All trees that arm steps lead to, by trying, with the fewest such steps.
            fewest = {one: 0}
            ahead = [one]
            for text in ahead:
                for (_, address), result in oracle.steps_from(oracle.read(text)):
                    if "l" not in address and oracle.text(result) not in fewest:
                        fewest[oracle.text(result)] = fewest[text] + 1
                        ahead.append(oracle.text(result))
            self.assertEqual(len(fewest), len(shapes(size(one))))
            for other in fewest:
                script = arm_way(one, other)
                self.assertEqual(turned(one, script), other)
                self.assertEqual(len(script), fewest[other])
                self.assertTrue(all("l" not in address for _, address in script))

    def test_larger_trees(self):
        chance = random.Random(71)
        trees = [oracle.leaning(40, side) for side in "lrz"] + [oracle.any_tree(40, chance) for _ in range(5)]
        for one, other in itertools.product(trees, repeat=2):
            script = arm_way(one, other)
            self.assertEqual(turned(one, script), other)
            self.assertEqual(len(script), len(arm_script(Move(one, other))))
            self.assertEqual({"l" in address for _, address in script} | {False}, {False})


class Farthest(unittest.TestCase):
    """[71]"""

    def test_by_trying(self):
        for one in oracle.texts(5):
            known = {other: len(scripts[0]) for other, scripts in shortest_from(one).items()}
            most = max(known.values())
            self.assertEqual(farthest(one), (most, sorted(other for other in known if known[other] == most)))

    def test_the_greatest_distances(self):
        self.assertEqual([max(farthest(tree)[0] for tree in shapes(nodes)) for nodes in range(7)], [0, 0, 1, 2, 4, 5, 7])
        self.assertEqual([farthest("."), farthest("(..)")], [(0, ["."]), (0, ["(..)"])])

    def test_seven_nodes(self):
        for tree in shapes(7)[::100]:
            most, others = farthest(tree)
            self.assertEqual(others, sorted(others))
            for other in others:
                self.assertEqual(distance(tree, other), most)
            for other in shapes(7)[::60]:
                self.assertEqual(other in others, distance(tree, other) == most)
                self.assertLessEqual(distance(tree, other), most)

    def test_values_that_are_no_trees(self):
        for wrong in oracle.WRONG:
            with self.assertRaises(InvalidTree) as caught:
                farthest(wrong)
            self.assertIs(caught.exception.value, wrong)


class Results(unittest.TestCase):
    """[2]"""

    def test_lists_are_new(self):
        one, other = "((((..).).).)", "(.(.(.(..))))"
        for call in (lambda: way(one, other), lambda: arm_way(one, other), lambda: farthest(one)[1],
                     lambda: way(".", "."), lambda: shapes(4)):
            first, kept = call(), call()
            first.append("mine")
            self.assertEqual(call(), kept)

    def test_strings_of_derived_classes_come_back_plain(self):
        class Text(str):
            pass
        one, other = Text("((..).)"), Text("(.(..))")
        found = farthest(one)[1] + farthest(Text("."))[1] + farthest(Text("(..)"))[1]
        for script in (way(one, other), arm_way(one, other)):
            self.assertEqual({type(step) for step in script}, {tuple})
            found += [item for step in script for item in step]
        self.assertEqual({type(item) for item in found}, {str})
        self.assertEqual([distance(one, other), count_ways(one, other), way(one, one)], [1, 1, []])


if __name__ == "__main__":
    unittest.main()
