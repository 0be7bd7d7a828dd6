"""Promises [10], [11] and [12]."""

import itertools
import unittest

import oracle
from treeturns.errors import InvalidAddress, InvalidList, InvalidTree
from treeturns.trees import grown, height, hung, is_tree, joined, leaves, nodes, part, replaced, shared, size

SMALL = oracle.texts(5)
TREE = "((..).)"


class Example(unittest.TestCase):

    def test_as_it_stands(self):
        tree = "((..).)"
        self.assertEqual(
            [size(tree), height(tree), leaves(tree), nodes(tree), part(tree, "l"), hung(tree, "(..)"),
             grown("(..)", [".", tree]), joined(tree, "(.(..))"), shared(tree, "(.(..))")],
            [2, 2, ['ll', 'lr', 'r'], ['l', ''], '(..)', ['(..)', '.'], '(.((..).))', '((..)(..))', '(..)'])


class Trees(unittest.TestCase):
    """[10]"""

    def test_texts_of_trees(self):
        known = set(SMALL)
        for many in range(9):
            for signs in itertools.product("(.)", repeat=many):
                value = "".join(signs)
                if value.count("(") <= 5:
                    self.assertIs(is_tree(value), value in known, value)

    def test_trees_of_up_to_five_nodes(self):
        self.assertEqual(len(SMALL), 1 + 1 + 2 + 5 + 14 + 42)
        for tree in SMALL:
            self.assertIs(is_tree(tree), True)

    def test_values_that_are_no_trees(self):
        for value in oracle.WRONG + ["", "l", [], [TREE], (TREE,), {TREE: TREE}, "(..)\n", " (..)", "(..) ", "[..]"]:
            with self.subTest(value):
                self.assertIs(is_tree(value), False)

    def test_long_texts_that_are_no_trees(self):
        for value in ["(" * 100000, "." * 100000, ")" * 100000, "(." * 50000, "(..)" * 20000]:
            self.assertIs(is_tree(value), False)
        deep = []
        for _ in range(100000):
            deep = [deep]
        self.assertIs(is_tree(deep), False)

    def test_size_and_height(self):
        for tree in SMALL:
            self.assertEqual(size(tree), tree.count("("))
            self.assertEqual(height(tree), oracle.depth(oracle.read(tree)))
        self.assertEqual([size("."), height(".")], [0, 0])

    def test_height_of_trees_that_lean(self):
        for side in "lrz":
            self.assertEqual(height(oracle.leaning(400, side)), 400)
        self.assertEqual(height("((((..).).)(..))"), 4)
        self.assertEqual(height("((..)(.(.(..))))"), 4)


class Addresses(unittest.TestCase):
    """[11]"""

    def test_leaves_and_nodes_from_left_to_right(self):
        for tree in SMALL:
            every = oracle.all_parts(oracle.read(tree))
            self.assertEqual(leaves(tree), [address for address, found in every if found is None])
            self.assertEqual(nodes(tree), [address for address, found in every if found is not None])

    def test_a_leaf_alone(self):
        self.assertEqual([leaves("."), nodes("."), part(".", "")], [[""], [], "."])

    def test_node_k_stands_between_the_leaves_k_less_1_and_k(self):
        for tree in SMALL:
            ends = leaves(tree)
            for k, node in enumerate(nodes(tree), 1):
                self.assertTrue(ends[k - 1].startswith(node + "l"))
                self.assertTrue(ends[k].startswith(node + "r"))

    def test_part_at_each_address(self):
        for tree in SMALL:
            every = dict(oracle.all_parts(oracle.read(tree)))
            for address in oracle.addresses(4):
                if address in every:
                    self.assertEqual(part(tree, address), oracle.text(every[address]))
                else:
                    with self.assertRaises(InvalidAddress) as caught:
                        part(tree, address)
                    self.assertIs(caught.exception.value, address)

    def test_replaced_at_each_address(self):
        for tree in oracle.texts(4):
            pairs = oracle.read(tree)
            every = dict(oracle.all_parts(pairs))
            for address in oracle.addresses(4):
                for other in [".", "(..)", "((..)(..))"]:
                    if address in every:
                        expected = oracle.text(oracle.put(pairs, address, oracle.read(other)))
                        self.assertEqual(replaced(tree, address, other), expected)
                    else:
                        with self.assertRaises(InvalidAddress) as caught:
                            replaced(tree, address, other)
                        self.assertIs(caught.exception.value, address)

    def test_values_that_are_no_addresses(self):
        for value in oracle.WRONG + [[], ".", "l l", "l\n", " ", "R", "lr ", ["l"], ("l", "r")]:
            with self.subTest(value):
                with self.assertRaises(InvalidAddress) as caught:
                    part("((..)(..))", value)
                self.assertIs(caught.exception.value, value)
                with self.assertRaises(InvalidAddress) as caught:
                    replaced("((..)(..))", value, ".")
                self.assertIs(caught.exception.value, value)


class Growth(unittest.TestCase):
    """[12]"""

    def test_grown_by_any_trees(self):
        items = [".", "(..)", "(.(..))"]
        for tree in oracle.texts(3):
            for trees in itertools.product(items, repeat=len(leaves(tree))):
                expected = oracle.fill(oracle.read(tree), [oracle.read(item) for item in trees])
                self.assertEqual(grown(tree, list(trees)), oracle.text(expected))
                self.assertEqual(hung(grown(tree, list(trees)), tree), list(trees))

    def test_lists_that_do_not_fit(self):
        wrong = oracle.WRONG + [
            [], ["."], [".", "."], [".", ".", ".", "."], (".", ".", "."), "...", [".", ".", None], [".", "x", "."],
            ["", ".", "."], [["."], ".", "."], [".", (".",), "."], [True, ".", "."], {0: ".", 1: ".", 2: "."}]
        for value in wrong:
            with self.subTest(value):
                with self.assertRaises(InvalidList) as caught:
                    grown(TREE, value)
                self.assertIs(caught.exception.value, value)

    def test_hung_of_all_small_pairs(self):
        for tree, top in itertools.product(SMALL, repeat=2):
            expected = oracle.below(oracle.read(tree), oracle.read(top))
            found = hung(tree, top)
            self.assertEqual(found, None if expected is None else [oracle.text(item) for item in expected])
            if found is not None:
                self.assertEqual(grown(top, found), tree)

    def test_hung_at_the_edges(self):
        self.assertEqual(hung(TREE, "."), [TREE])
        self.assertEqual(hung(TREE, TREE), [".", ".", "."])
        self.assertEqual(hung(".", "."), ["."])
        self.assertIsNone(hung(".", TREE))
        self.assertIsNone(hung("(..)", TREE))

    def test_joined_is_the_only_smallest_tree_into_which_both_grow(self):
        trees = oracle.texts(6)
        few = oracle.texts(3)
        above = {top: {tree for tree in trees if hung(tree, top) is not None} for top in few}
        for one, other in itertools.product(few, repeat=2):
            both = above[one] & above[other]
            least = min([size(tree) for tree in both])
            self.assertEqual([joined(one, other)], [tree for tree in both if size(tree) == least])

    def test_shared_is_the_only_largest_tree_that_grows_into_both(self):
        trees = oracle.texts(4)
        tops = {tree: {top for top in trees if hung(tree, top) is not None} for tree in trees}
        for one, other in itertools.product(trees, repeat=2):
            both = tops[one] & tops[other]
            most = max([size(top) for top in both])
            self.assertEqual([shared(one, other)], [top for top in both if size(top) == most])

    def test_joined_and_shared_of_all_small_pairs(self):
        for one, other in itertools.product(SMALL, repeat=2):
            union, common = joined(one, other), shared(one, other)
            self.assertEqual(size(union) + size(common), size(one) + size(other))
            for tree in (one, other):
                self.assertIsNotNone(hung(union, tree))
                self.assertIsNotNone(hung(tree, common))

    def test_joined_and_shared_with_a_leaf(self):
        self.assertEqual([joined(".", TREE), joined(TREE, "."), joined(".", ".")], [TREE, TREE, "."])
        self.assertEqual([shared(".", TREE), shared(TREE, "."), shared(TREE, TREE)], [".", ".", TREE])


class WrongTrees(unittest.TestCase):
    """[10]: all other functions raise InvalidTree for an argument that has to be a tree and is none."""

    def check(self, call, value):
        with self.assertRaises(InvalidTree) as caught:
            call(value)
        self.assertIs(caught.exception.value, value)

    def test_wrong_values(self):
        calls = [
            size, height, leaves, nodes,
            lambda value: part(value, ""), lambda value: replaced(value, "", "."),
            lambda value: replaced(TREE, "l", value), lambda value: grown(value, ["."]),
            lambda value: hung(value, "."), lambda value: hung(TREE, value),
            lambda value: joined(value, TREE), lambda value: joined(TREE, value),
            lambda value: shared(value, TREE), lambda value: shared(TREE, value),
        ]
        for call in calls:
            for value in oracle.WRONG + ["", [], "l", [TREE], (".",)]:
                with self.subTest(value):
                    self.check(call, value)


if __name__ == "__main__":
    unittest.main()
