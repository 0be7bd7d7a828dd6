"""Promises [60] to [66]."""

import itertools
import random
import unittest

import oracle
from treeturns.errors import InvalidList, InvalidMove, InvalidNumber, InvalidTree
from treeturns.heights import (balanced_change, change, change_nodes, fits, is_balanced, keeps, least_nodes, leans,
                               mends, spoiled, spoils)
from treeturns.moves import Move, widest
from treeturns.scripts import turned
from treeturns.trees import grown, height, size

STILL = Move(".", ".")
UP = Move.of([("right", "")])
SMALL = oracle.moves(3)
NO_NUMBERS = [wrong for wrong in oracle.WRONG if type(wrong) is not int]


def turned_moves(many, nodes, seed):
    """Moves of trees by chance and of what a few rotations make of them, the same ones in each run."""
    chance = random.Random(seed)
    found = []
    for _ in range(many):
        before = after = oracle.read(oracle.any_tree(nodes, chance))
        for _ in range(chance.randrange(4)):
            after = chance.choice(oracle.steps_from(after))[1]
        found.append(Move(oracle.text(before), oracle.text(after)))
    return found


SOME = oracle.moves(4)[::9] + turned_moves(25, 4, 60) + turned_moves(25, 5, 61) + oracle.any_moves(10, 5, 62)


class Raising(unittest.TestCase):

    def refused(self, error, wrong, call, *arguments):
        with self.assertRaises(error) as caught:
            call(*arguments)
        self.assertIs(caught.exception.value, wrong)


class Example(unittest.TestCase):

    def test_as_it_stands(self):
        up = Move.of([("right", "")])
        self.assertEqual(
            [change(up), change_nodes(up, 1), keeps(up, 1), spoiled(up, 1), leans("((..).)", [1, 0, 0]),
             mends("((..).)", [[1, 0, 0]], 1, 2), mends("((.(..)).)", [[1, 1, 0, 1]], 1, 2)],
            [(-1, 1), 3, False, [0, 0, 1], [1, 2], [[('right', '')]], [[('left', 'l'), ('right', '')]]])


class Balance(Raising):
    """[60]"""

    def test_trees_of_every_shape(self):
        for tree in [tree for many in range(7) for tree in oracle.shapes(many)]:
            for slack in (0, 1, 2, 3, 10 ** 30):
                nodes = [node for _, node in oracle.all_parts(tree) if node is not None]
                expected = all(abs(oracle.depth(left) - oracle.depth(right)) <= slack for left, right in nodes)
                self.assertIs(is_balanced(oracle.text(tree), slack), expected)

    def test_slack_of_none(self):
        self.assertEqual([tree for tree in oracle.texts(7) if is_balanced(tree, 0)],
                         [".", "(..)", "((..)(..))", "(((..)(..))((..)(..)))"])

    def test_long_trees(self):
        for side in "lrz":
            tree = oracle.leaning(300, side)
            self.assertEqual([is_balanced(tree, slack) for slack in (0, 298, 299, 300)], [False, False, True, True])

    def test_fewest_nodes_by_trying_all_trees(self):
        for slack in range(4):
            least = {}
            for tree in oracle.texts(8):
                if is_balanced(tree, slack):
                    least.setdefault(height(tree), size(tree))
            for high in range(5):
                if high in least:
                    self.assertEqual(least_nodes(high, slack), least[high])
            self.assertGreaterEqual(len(least), 4)

    def test_fewest_nodes_of_higher_trees(self):
        for slack in range(6):
            for high in range(12):
                self.assertEqual(least_nodes(high, slack), oracle.fewest(high, slack))
                tree = oracle.text(oracle.smallest(high, slack))
                self.assertEqual([size(tree), height(tree)], [least_nodes(high, slack), high])
                self.assertTrue(is_balanced(tree, slack))
        self.assertEqual([least_nodes(high, 1) for high in range(8)], [0, 1, 2, 4, 7, 12, 20, 33])

    def test_the_greatest_height(self):
        self.assertEqual(least_nodes(1000, 0), 2 ** 1000 - 1)
        self.assertEqual([least_nodes(1000, slack) for slack in (999, 1000, 10 ** 30)], [1000, 1000, 1000])
        self.assertEqual(least_nodes(1000, 998), 1001)
        self.assertEqual(least_nodes(1000, 1), least_nodes(999, 1) + least_nodes(998, 1) + 1)

    def test_wrong_values(self):
        for wrong in oracle.WRONG:
            for slack in (1, -1, [wrong]):
                self.refused(InvalidTree, wrong, is_balanced, wrong, slack)
        for wrong in NO_NUMBERS + [-1, -10 ** 30]:
            self.refused(InvalidNumber, wrong, is_balanced, "((..).)", wrong)
            self.refused(InvalidNumber, wrong, least_nodes, wrong, 1)
            self.refused(InvalidNumber, wrong, least_nodes, wrong, [wrong])
            self.refused(InvalidNumber, wrong, least_nodes, 1, wrong)


class Rows(Raising):
    """[61]"""

    def test_against_the_tree_grown_by_such_trees(self):
        for tree in [tree for many in range(4) for tree in oracle.shapes(many)]:
            for slack in (0, 1, 2, 3):
                for row in itertools.product(range(4), repeat=oracle.text(tree).count(".")):
                    hanging = [oracle.text(oracle.smallest(high, slack)) for high in row]
                    whole = grown(oracle.text(tree), hanging)
                    self.assertIs(fits(oracle.text(tree), list(row), slack), is_balanced(whole, slack))

    def test_leans_of_every_shape(self):
        chance = random.Random(61)
        for tree in [tree for many in range(7) for tree in oracle.shapes(many)]:
            text = oracle.text(tree)
            for _ in range(3):
                row = [chance.randrange(9) for _ in range(text.count("."))]
                leaning = oracle.grown_high(tree, row)[1]
                self.assertEqual(leans(text, row), leaning)
                for slack in range(9):
                    self.assertIs(fits(text, row, slack), all(abs(lean) <= slack for lean in leaning))

    def test_sign_and_order(self):
        self.assertEqual(leans(".", [7]), [])
        self.assertEqual(leans("(..)", [5, 2]), [3])
        self.assertEqual(leans("(..)", [2, 5]), [-3])
        self.assertEqual(leans("((..)(..))", [4, 0, 1, 3]), [4, 1, -2])
        self.assertEqual(leans("(.(.(..)))", [0, 0, 0, 0]), [-2, -1, 0])
        self.assertEqual(leans("(((..).).)", [0, 0, 0, 0]), [0, 1, 2])
        self.assertEqual(leans("(..)", [10 ** 30, 0]), [10 ** 30])

    def test_a_leaf_is_balanced_with_every_height(self):
        for high in (0, 1, 10 ** 30):
            self.assertIs(fits(".", [high], 0), True)

    def test_long_trees(self):
        for side, sign in (("l", 1), ("r", -1)):
            found = leans(oracle.leaning(300, side), [0] * 301)
            self.assertEqual(sorted(sign * lean for lean in found), list(range(300)))
            self.assertEqual(found, list(range(300)) if side == "l" else list(range(-299, 1)))
            self.assertEqual(fits(oracle.leaning(300, side), [0] * 301, 299), True)
            self.assertEqual(fits(oracle.leaning(300, side), [0] * 301, 298), False)

    def test_lists_that_are_no_rows(self):
        rows = [[], [0], [0, 0], [0, 0, 0, 0], [0, True, 0], [0, 0, False], [0, -1, 0], [-1, 0, 0], (0, 0, 0), [0, None, 0],
                [0, "0", 0], [0, [0], 0], [0, (0,), 0], "000", {0: 0, 1: 0, 2: 0}, [0, 0, UP]]
        for wrong in rows + oracle.WRONG:
            for slack in (1, -1, None):
                self.refused(InvalidList, wrong, fits, "((..).)", wrong, slack)
            self.refused(InvalidList, wrong, leans, "((..).)", wrong)

    def test_wrong_values(self):
        for wrong in oracle.WRONG:
            self.refused(InvalidTree, wrong, fits, wrong, [wrong], [wrong])
            self.refused(InvalidTree, wrong, leans, wrong, [wrong])
            self.refused(InvalidTree, wrong, leans, wrong, [0])
        for wrong in NO_NUMBERS + [-1]:
            self.refused(InvalidNumber, wrong, fits, "((..).)", [0, 0, 0], wrong)


class Changes(Raising):
    """[62]"""

    def test_by_trying(self):
        for move in SMALL + SOME[::4]:
            before, after = oracle.read(move.before), oracle.read(move.after)
            nodes = size(move.before)
            fewest = {}
            # A tree of a height with the fewest nodes has one node on each level. No leaf is more than `nodes` deep.
            for row in itertools.product(range([9, 9, 6, 5, 5, 5][nodes]), repeat=nodes + 1):
                amount = oracle.grown_high(after, row)[0] - oracle.grown_high(before, row)[0]
                fewest[amount] = min(fewest.get(amount, 1000), nodes + sum(row))
            self.assertEqual(change(move), (min(fewest), max(fewest)), move)
            for amount in range(-6, 7):
                self.assertEqual(change_nodes(move, amount), fewest.get(amount), (move, amount))

    def test_moves_that_change_nothing(self):
        for tree in oracle.texts(4):
            move = Move(tree, tree)
            self.assertEqual(change(move), (0, 0))
            self.assertEqual(change_nodes(move, 0), size(tree))
            self.assertEqual([change_nodes(move, amount) for amount in (-1, 1)], [None, None])

    def test_amounts_that_never_occur(self):
        for amount in (-2, 2, 10 ** 30, -10 ** 30):
            self.assertIsNone(change_nodes(UP, amount))
        self.assertEqual([change_nodes(UP, amount) for amount in (-1, 0, 1)], [3, 2, 3])

    def test_a_tree_with_as_few_nodes_is_changed_so(self):
        chance = random.Random(62)
        for many in (20, 60):
            trees = [oracle.leaning(many, side) for side in "lrz"] + [oracle.any_tree(many, chance) for _ in range(3)]
            for before, after in itertools.permutations(trees, 2):
                move = Move(before, after)
                least, most = change(move)
                low, high = (oracle.depth(oracle.read(tree)) for tree in (before, after))
                for amount in (least, (least + most) // 2, most):
                    # Nothing has to hang below only if the two trees themselves differ so in height.
                    found = change_nodes(move, amount) - many
                    self.assertGreaterEqual(found, 0)
                    self.assertEqual(found == 0, amount == high - low)
                self.assertIsNone(change_nodes(move, least - 1))
                self.assertIsNone(change_nodes(move, most + 1))

    def test_wrong_values(self):
        for wrong in oracle.NO_MOVES:
            self.refused(InvalidMove, wrong, change, wrong)
            for amount in (0, [wrong]):
                self.refused(InvalidMove, wrong, change_nodes, wrong, amount)
        for wrong in NO_NUMBERS:
            self.refused(InvalidNumber, wrong, change_nodes, UP, wrong)


class Keeping(Raising):
    """[63] and [64]"""

    def check(self, move, slack):
        before, after = oracle.read(move.before), oracle.read(move.after)
        rows = oracle.lowest_rows(before, slack)
        bad = [(sum(oracle.fewest(high, slack) for high in row), row) for row in rows
               if not oracle.steady(after, row, slack)]
        found = spoiled(move, slack)
        self.assertEqual(found, min(bad)[1] if bad else None, (move, slack))
        self.assertIs(keeps(move, slack), found is None)
        amounts = [oracle.grown_high(after, row)[0] - oracle.grown_high(before, row)[0] for row in rows]
        self.assertEqual(balanced_change(move, slack), (min(amounts), max(amounts)), (move, slack))

    def test_small_moves(self):
        for move in SMALL:
            for slack in range(4):
                self.check(move, slack)

    def test_some_moves(self):
        for move in SOME:
            for slack in range(3 if size(move.before) == 4 else 2):
                self.check(move, slack)

    def test_moves_of_six_nodes(self):
        for move in turned_moves(20, 6, 63):
            self.check(move, 1)

    def test_rows_of_heights_that_are_not_lowest_are_no_better(self):
        for move in SMALL[::3]:
            before, after = oracle.read(move.before), oracle.read(move.after)
            for slack in (0, 1, 2):
                bad = [(sum(oracle.fewest(high, slack) for high in row), list(row))
                       for row in itertools.product(range(6), repeat=size(move.before) + 1)
                       if oracle.steady(before, row, slack) and not oracle.steady(after, row, slack)]
                if bad:
                    self.assertEqual(spoiled(move, slack), min(bad)[1])

    def test_moves_that_change_nothing(self):
        for tree in oracle.texts(5):
            for slack in range(4):
                move = Move(tree, tree)
                self.assertIs(keeps(move, slack), True)
                self.assertIsNone(spoiled(move, slack))
                self.assertEqual(balanced_change(move, slack), (0, 0))

    def test_slack_of_none(self):
        # Then the leaves of one depth have the same height, and a rotation makes their depths differ.
        self.assertEqual([keeps(UP, 0), spoiled(UP, 0), balanced_change(UP, 0)], [False, [0, 0, 1], (1, 1)])

    def test_the_row_is_spoiled(self):
        chance = random.Random(64)
        trees = [oracle.leaning(10, side) for side in "lrz"] + [oracle.any_tree(10, chance) for _ in range(4)]
        for before, after in itertools.permutations(trees, 2):
            for slack in range(4):
                row = spoiled(Move(before, after), slack)
                if row is None:
                    self.assertIs(keeps(Move(before, after), slack), True)
                else:
                    self.assertEqual([fits(before, row, slack), fits(after, row, slack)], [True, False])
                    self.assertEqual(min(row), 0)
                least, most = balanced_change(Move(before, after), slack)
                self.assertLessEqual(change(Move(before, after))[0], least)
                self.assertEqual(change(Move(before, after))[1], most)

    def test_a_great_slack_is_that_of_all_trees(self):
        for move in SMALL + SOME:
            self.assertEqual(balanced_change(move, 50), change(move))

    def test_wrong_values(self):
        for call in (keeps, spoiled, balanced_change):
            for wrong in oracle.NO_MOVES:
                for slack in (1, -1, [wrong]):
                    self.refused(InvalidMove, wrong, call, wrong, slack)
            for wrong in NO_NUMBERS + [-1, -10 ** 30]:
                self.refused(InvalidNumber, wrong, call, UP, wrong)


class Spoiling(Raising):
    """[65]"""

    def expected(self, tree, leaf, by, slack):
        """By trying all rows with heights of up to one more than the lowest ones have."""
        many = oracle.text(tree).count(".")
        rows = oracle.lowest_rows(tree, slack)
        if by == -1:
            # Those in which the height at the leaf cannot be lowered count one higher.
            rows += [[high + 1 for high in row] for row in rows]
            rows = [row for row in rows if row[leaf] > 0 and (min(row) == 0 or min(row) == 1 and row[leaf] == 1)]
        changed = [[high + by * (k == leaf) for k, high in enumerate(row)] for row in rows]
        self.assertTrue(all(len(row) == many for row in rows))
        return sorted(row for row, other in zip(rows, changed) if not oracle.steady(tree, other, slack))

    def test_by_trying(self):
        for nodes, slacks in ((0, 3), (1, 4), (2, 4), (3, 3), (4, 3)):
            for tree in oracle.shapes(nodes):
                for slack in range(slacks):
                    for leaf in range(nodes + 1):
                        for by in (1, -1):
                            self.assertEqual(spoils(oracle.text(tree), leaf, by, slack),
                                             self.expected(tree, leaf, by, slack), (tree, leaf, by, slack))

    def test_all_rows_of_a_few_heights(self):
        # The same from the words alone: all rows, the lowest as they say.
        for tree in oracle.shapes(2) + oracle.shapes(3)[::2]:
            many = oracle.text(tree).count(".")
            for slack, leaf, by in itertools.product((0, 1), range(many), (1, -1)):
                found = []
                for row in itertools.product(range(8), repeat=many):
                    other = [high + by * (k == leaf) for k, high in enumerate(row)]
                    lowest = 1 if by == -1 and min(row) == row[leaf] else 0
                    if min(row) == lowest and min(other) >= 0 and oracle.steady(tree, row, slack):
                        if not oracle.steady(tree, other, slack):
                            found.append(list(row))
                self.assertEqual(spoils(oracle.text(tree), leaf, by, slack), found)

    def test_larger_trees(self):
        chance = random.Random(65)
        for nodes in (5, 6):
            for _ in range(4):
                tree = oracle.read(oracle.any_tree(nodes, chance))
                leaf = chance.randrange(nodes + 1)
                for by in (1, -1):
                    self.assertEqual(spoils(oracle.text(tree), leaf, by, 1), self.expected(tree, leaf, by, 1))
        tree = oracle.read("((.(..))(..))")
        self.assertEqual(spoils("((.(..))(..))", 2, 1, 2), self.expected(tree, 2, 1, 2))

    def test_lowest_heights(self):
        self.assertEqual(spoils("(..)", 0, 1, 1), [[1, 0]])
        self.assertEqual(spoils("(..)", 0, -1, 1), [[1, 2]])
        self.assertEqual(spoils("(..)", 0, -1, 0), [[1, 1]])
        self.assertEqual(spoils("(..)", 1, -1, 0), [[1, 1]])
        self.assertEqual(spoils("(..)", 1, 1, 2), [[0, 2]])
        self.assertEqual(spoils(".", 0, 1, 0), [])
        self.assertEqual(spoils(".", 0, -1, 0), [])
        self.assertIn([0, 0, 2], spoils("((..).)", 2, 1, 1))
        for row in spoils("((..)(..))", 1, -1, 1):
            self.assertTrue(min(row) == 0 or min(row) == row[1] == 1)
            self.assertGreater(row[1], 0)

    def test_wrong_values_in_order(self):
        for wrong in oracle.WRONG:
            self.refused(InvalidTree, wrong, spoils, wrong, [wrong], [wrong], [wrong])
        for wrong in NO_NUMBERS + [-1, 3, 10 ** 30, -10 ** 30]:
            for by in (1, 0, wrong):
                self.refused(InvalidNumber, wrong, spoils, "((..).)", wrong, by, 1)
        for wrong in NO_NUMBERS + [0, 2, -2, 10 ** 30]:
            for slack in (1, -1, None):
                self.refused(InvalidNumber, wrong, spoils, "((..).)", 0, wrong, slack)
        for wrong in NO_NUMBERS + [-1]:
            self.refused(InvalidNumber, wrong, spoils, "((..).)", 0, 1, wrong)
        self.refused(InvalidNumber, 1, spoils, ".", 1, 1, 1)


class Mending(Raising):
    """[66]"""

    def expected(self, tree, rows, slack, most):
        for many in range(most + 1):
            found = [script for script, result in oracle.scripts_from(tree, many)
                     if all(oracle.steady(result, row, slack) for row in rows)]
            if found:
                return sorted(found)
        return []

    def check(self, tree, rows, slack, most):
        self.assertEqual(mends(oracle.text(tree), rows, slack, most), self.expected(tree, rows, slack, most),
                         (tree, rows, slack, most))

    def test_trees_of_every_shape(self):
        chance = random.Random(66)
        for tree in [tree for many in range(6) for tree in oracle.shapes(many)]:
            many = oracle.text(tree).count(".")
            for slack in (0, 1, 2):
                for most in (0, 1, 2, 4):
                    self.check(tree, [[0] * many], slack, most)
                row = [chance.randrange(3) for _ in range(many)]
                self.check(tree, [row], slack, 4)

    def test_several_rows_at_once(self):
        chance = random.Random(67)
        for tree in oracle.shapes(4) + oracle.shapes(5)[::3]:
            many = oracle.text(tree).count(".")
            for slack in (1, 2):
                rows = [[chance.randrange(2) for _ in range(many)] for _ in range(chance.choice([2, 3, 6]))]
                self.check(tree, rows, slack, 4)

    def test_what_a_changed_leaf_spoils_is_mended(self):
        for tree in oracle.shapes(3):
            text = oracle.text(tree)
            for leaf, by in itertools.product(range(4), (1, -1)):
                rows = [[high + by * (k == leaf) for k, high in enumerate(row)] for row in spoils(text, leaf, by, 1)]
                for row in rows:
                    self.check(tree, [row], 1, 2)
                if rows:
                    self.check(tree, rows[:60], 1, 3)

    def test_the_heights_are_carried_along_with_the_leaves(self):
        self.assertEqual(mends("((..).)", [[2, 1, 1]], 1, 6), [[("right", "")]])
        self.assertEqual(mends("((.(..)).)", [[0, 0, 0, 0]], 1, 6), [[("left", "l"), ("right", "")]])
        found = mends("((((..).).).)", [[0, 0, 0, 0, 0]], 1, 6)
        self.assertEqual(found, sorted(found))
        for script in found:
            self.assertIs(fits(turned("((((..).).).)", script), [0] * 5, 1), True)

    def test_balanced_already(self):
        for tree in oracle.texts(6):
            if is_balanced(tree, 1):
                for most in (0, 6):
                    self.assertEqual(mends(tree, [[0] * (size(tree) + 1)] * 60, 1, most), [[]])

    def test_not_to_be_mended(self):
        self.assertEqual(mends("(..)", [[0, 2]], 1, 6), [])
        self.assertEqual(mends("((..).)", [[2, 0, 0]], 1, 0), [])
        self.assertEqual(mends("((..).)", [[1, 0, 0], [0, 0, 1]], 0, 6), [])
        self.assertEqual(mends("((((..).).).)", [[0] * 5], 1, 1), [[("right", "")]])
        self.assertEqual(mends("(((((..).).).).)", [[0] * 6], 1, 1), [])
        self.assertEqual(mends(".", [[5]], 0, 6), [[]])

    def test_wrong_values_in_order(self):
        tree, row = "((..).)", [0, 0, 0]
        for wrong in oracle.WRONG:
            self.refused(InvalidTree, wrong, mends, wrong, [wrong], [wrong], [wrong])
        no_lists = [wrong for wrong in oracle.WRONG if not isinstance(wrong, list)]
        for wrong in no_lists + [[], (), [row] * 61, (row,), {0: row}, [None] * 61]:
            for slack in (1, -1, None):
                self.refused(InvalidList, wrong, mends, tree, wrong, slack, 7)
        for wrong in oracle.WRONG + [[0, 0], [0, 0, 0, 0], [0, True, 0], [0, -1, 0], (0, 0, 0), []]:
            for rows in ([wrong], [row, wrong], [wrong, row], [row, wrong, None], [row] * 59 + [wrong]):
                for slack in (1, -1, None):
                    self.refused(InvalidList, wrong, mends, tree, rows, slack, 7)
        for wrong in NO_NUMBERS + [-1]:
            for most in (1, 7, [wrong]):
                self.refused(InvalidNumber, wrong, mends, tree, [row], wrong, most)
        for wrong in NO_NUMBERS + [-1, 7, 10 ** 30]:
            self.refused(InvalidNumber, wrong, mends, tree, [row], 1, wrong)


class Lists(unittest.TestCase):
    """[2]: lists that are returned are new, none occurs twice, and nothing is changed."""

    def test_no_list_occurs_twice(self):
        for call in (lambda: mends("((..).)", [[0, 0, 0]], 1, 6), lambda: spoils("((..)(..))", 0, 1, 1),
                     lambda: mends("((((..).).).)", [[0] * 5], 1, 6)):
            found, again = call(), call()
            lists = [found, again] + found + again
            self.assertEqual(len({id(item) for item in lists}), len(lists))
            kept = [list(item) for item in again]
            for item in found:
                item.append("mine")
            del found[:]
            self.assertEqual(again, kept)
            self.assertEqual(call(), kept)

    def test_arguments_are_not_returned_nor_changed(self):
        row, rows = [0, 0, 0], [[0, 0, 0], [1, 0, 0]]
        self.assertEqual(leans("((..).)", row), [0, 1])
        mends("((..).)", rows, 1, 3)
        fits("((..).)", row, 1)
        self.assertEqual([row, rows], [[0, 0, 0], [[0, 0, 0], [1, 0, 0]]])

    def test_widest_moves_have_other_rows(self):
        # The rows are those of the tree before, not those of a smaller one.
        move = Move("(((..).).)", "((..)(..))")
        self.assertEqual(widest(move), UP)
        self.assertEqual([spoiled(UP, 1), spoiled(move, 1)], [[0, 0, 1], [0, 0, 0, 2]])


if __name__ == "__main__":
    unittest.main()
