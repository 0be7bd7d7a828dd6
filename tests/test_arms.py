"""Promises [40] to [43]."""

import itertools
import random
import unittest

import oracle
from treeturns.arms import arm_script, counts, from_counts, normal, off_arm, shortest
from treeturns.errors import InvalidList, InvalidMove, InvalidNumber, InvalidTree
from treeturns.moves import Move, alike, widest
from treeturns.scripts import turned
from treeturns.trees import leaves

STILL = Move(".", ".")
UP = Move.of([("right", "")])
SMALL = oracle.moves(3)
SOME = oracle.moves(4)[::7] + oracle.any_moves(8, 8, 40)
ARM = [(word, "r" * letters) for word in ("left", "right") for letters in range(4)]


def nodes_off_arm(tree):
    """(node, address of its leftmost leaf) for each node that is not on the right arm."""
    found = []
    for address, node in oracle.all_parts(oracle.read(tree)):
        if node is not None and "l" in address:
            low = node
            leaf = address
            while low is not None:
                low, leaf = low[0], leaf + "l"
            found.append((address, leaf))
    return found


def by_counts(numbers):
    """The script that [42] tells for the list `ups`."""
    script = []
    for k in range(len(numbers)):
        for _ in range(numbers[k]):
            script.append(("right", "r" * k))
    return script


def undone(script):
    return [({"left": "right", "right": "left"}[word], address) for word, address in reversed(script)]


def is_normal(ups, downs):
    """Whether two lists are the normal of a move, by the words of [42]."""
    if ups[-1:] == [0] or downs[-1:] == [0]:
        return False

    def at(row, k):
        return row[k] if k < len(row) else 0
    return not any([at(ups, k) > 0 and at(downs, k) > 0 and not (at(ups, k + 1) > 0 or at(downs, k + 1) > 0)
                    for k in range(max(len(ups), len(downs)))])


class Example(unittest.TestCase):

    def test_as_it_stands(self):
        move = Move.of([("left", "l"), ("right", "")])
        self.assertEqual(
            [counts(move.before), normal(move), len(arm_script(move)), from_counts([1, 1], [1]) == move,
             shortest(move, ["", "r"], 5)],
            [[1, 1, 0, 0], ([1, 1], [1]), 3, True, [('right', ''), ('right', 'r'), ('left', '')]])


class Counts(unittest.TestCase):
    """[40]"""

    def test_all_small_trees(self):
        for tree in oracle.texts(6):
            off = nodes_off_arm(tree)
            self.assertEqual(off_arm(tree), len(off))
            self.assertEqual(counts(tree), [len([1 for _, leaf in off if leaf == place]) for place in leaves(tree)])

    def test_at_the_edges(self):
        self.assertEqual([off_arm("."), off_arm("(..)"), off_arm("((..).)"), off_arm("(.(..))")], [0, 0, 1, 0])
        self.assertEqual([counts("."), counts("(..)"), counts("((..).)")], [[0], [0, 0], [1, 0, 0]])
        self.assertEqual(counts("((..)(..))"), [1, 0, 0, 0])
        self.assertEqual(counts("(.(((..).).))"), [0, 2, 0, 0, 0])
        self.assertEqual(counts("((.((..).)).)"), [1, 2, 0, 0, 0])
        for side, many in (("l", 299), ("r", 0), ("z", 299)):
            tree = oracle.leaning(300, side)
            self.assertEqual([off_arm(tree), sum(counts(tree)), len(counts(tree))], [many, many, 301])

    def test_other_values(self):
        for value in oracle.WRONG + ["", [], "l", ["."]]:
            for call in (off_arm, counts):
                with self.assertRaises(InvalidTree) as caught:
                    call(value)
                self.assertIs(caught.exception.value, value)


class Scripts(unittest.TestCase):
    """[41]"""

    def test_it_is_a_script_of_arm_steps_with_an_alike_move(self):
        for move in SMALL + SOME + [one * ~one for one in SOME]:
            script = arm_script(move)
            self.assertTrue(alike(Move.of(script), move))
            self.assertTrue(all([set(address) <= {"r"} and word in ("left", "right") for word, address in script]))
            wide = widest(move)
            self.assertEqual(len(script), len(nodes_off_arm(wide.before)) + len(nodes_off_arm(wide.after)))

    def test_it_can_be_done_wherever_the_move_can_be_done(self):
        for move in SMALL + SOME:
            self.assertEqual(turned(move.before, arm_script(move)), move.after)
            self.assertTrue(move <= Move.of(arm_script(move)))

    def test_no_shorter_script_has_an_alike_move(self):
        wides = {}
        for many in range(4):
            for steps in itertools.product(ARM, repeat=many):
                wides.setdefault(repr(widest(Move.of(list(steps)))), many)
        for move in SMALL:
            self.assertEqual(min(wides.get(repr(widest(move)), 4), 4), min(len(arm_script(move)), 4))

    def test_at_the_edges(self):
        self.assertEqual([arm_script(STILL), arm_script(UP * ~UP), arm_script(UP)], [[], [], [("right", "")]])
        self.assertEqual(arm_script(~UP.under("rr")), [("left", "rr")])
        self.assertEqual(len(arm_script(UP.under("l"))), 4)

    def test_other_values(self):
        for value in oracle.NO_MOVES + [UP.before, [("right", "")], ([1], [])]:
            for call in (arm_script, normal, lambda item: shortest(item, [], -1), lambda item: shortest(item, [""], 1)):
                with self.assertRaises(InvalidMove) as caught:
                    call(value)
                self.assertIs(caught.exception.value, value)


class FromCounts(unittest.TestCase):
    """[42]"""

    def test_the_widest_move_of_the_script(self):
        rows = [list(row) for many in range(4) for row in itertools.product(range(3), repeat=many)]
        for ups, downs in itertools.product(rows[::2], rows[::3]):
            move = from_counts(ups, downs)
            self.assertEqual(move, widest(Move.of(by_counts(ups) + undone(by_counts(downs)))))

    def test_of_normal(self):
        for move in SMALL + SOME:
            ups, downs = normal(move)
            self.assertEqual(from_counts(ups, downs), widest(move))
            self.assertTrue(is_normal(ups, downs))

    def test_two_lists_that_are_a_normal_are_the_normal_of_what_comes_of_them(self):
        rows = [list(row) for many in range(4) for row in itertools.product(range(3), repeat=many)]
        for ups, downs in itertools.product(rows, rows[::2]):
            found = normal(from_counts(ups, downs))
            self.assertIs(found == (ups, downs), is_normal(ups, downs))

    def test_moves_are_alike_exactly_if_they_have_the_same_normal(self):
        for one, other in itertools.product(SMALL, repeat=2):
            self.assertIs(normal(one) == normal(other), alike(one, other))

    def test_normal_is_a_tuple_of_two_lists(self):
        for move in (STILL, UP, ~UP, UP * ~UP):
            found = normal(move)
            self.assertEqual([type(found), type(found[0]), type(found[1])], [tuple, list, list])
            self.assertIsNot(found[0], found[1])
        self.assertEqual([normal(STILL), normal(UP), normal(~UP)], [([], []), ([1], []), ([], [1])])
        self.assertEqual(normal(UP.under("rr").times(3)), ([0, 0, 3], []))

    def test_sums_of_sixty(self):
        self.assertEqual(from_counts([60], []), Move(oracle.leaning(61, "l"), oracle.leaning(61, "r")))
        self.assertEqual(from_counts([], [60]), Move(oracle.leaning(61, "r"), oracle.leaning(61, "l")))
        self.assertEqual(from_counts([60], [60]), STILL)
        self.assertEqual(from_counts([59, 1], [60]), from_counts([59, 1, 0, 0], [60]))
        self.assertEqual(normal(from_counts([1] * 60, [2] * 30)), ([1] * 60, [2] * 30))
        chance = random.Random(42)
        for _ in range(20):
            row = [0] * 12
            for _ in range(60):
                row[chance.randrange(12)] += 1
            self.assertEqual(sum(row), 60)
            self.assertEqual(from_counts(row, []).after, oracle.leaning(from_counts(row, []).after.count("("), "r"))

    def test_empty_lists_and_zeros(self):
        for ups, downs in itertools.product([[], [0], [0] * 500], repeat=2):
            self.assertEqual(from_counts(ups, downs), STILL)
        self.assertEqual(from_counts([1, 0, 0], []), UP)

    def test_lists_that_are_none(self):
        wrong = oracle.WRONG + [
            [True], [False], [1, True], [-1], [2, -1], [0, 0, -5], [61], [60, 1], [1] * 61, [30, 31], [100, -40],
            [10 ** 30], (1,), (), "1", ["1"], [None], [[1]], [(1,)], {0: 1}, 0, [1, "l"], range(3), [1.0]]
        # An empty list is fine, although [43] refuses it.
        for value in [item for item in wrong if item != []]:
            for given in ((value, []), ([], value), ([60], value), (value, [-1])):
                with self.assertRaises(InvalidList) as caught:
                    from_counts(*given)
                self.assertIs(caught.exception.value, value)


class Shortest(unittest.TestCase):
    """[43]"""

    def first_scripts(self, places, most):
        """The first of the shortest scripts for each widest move, by trying all scripts in order."""
        steps = sorted([(word, place) for word in ("left", "right") for place in places])
        found = {}
        for many in range(most + 1):
            for script in itertools.product(steps, repeat=many):
                found.setdefault(repr(widest(Move.of(list(script)))), list(script))
        return found

    def test_all_scripts_of_up_to_two_or_three_steps(self):
        for places, most in [([""], 3), (["r", ""], 3), (["", "l", "r"], 3), (["lr", "l", ""], 3), (["rr", "", "r"], 2),
                             (["llrl"], 3), (["rlrl", "rl"], 3), (["l", "rrrr", "lrlr"], 2)]:
            first = self.first_scripts(places, most)
            for text, script in first.items():
                move = eval(text)
                more = move * UP.under("lrr") * ~UP.under("lrr")
                for number in range(most + 1):
                    expected = script if len(script) <= number else None
                    self.assertEqual(shortest(move, places, number), expected)
                self.assertEqual(shortest(more, places[::-1], most), script)

    def test_any_move(self):
        first = self.first_scripts(["", "r"], 5)
        for move in oracle.moves(4)[::5] + SMALL:
            self.assertEqual(shortest(move, ["r", ""], 5), first.get(repr(widest(move))))

    def test_none(self):
        self.assertIsNone(shortest(UP, ["l", "r"], 5))
        self.assertIsNone(shortest(UP.times(6), ["", "r", "l"], 5))
        self.assertIsNone(shortest(UP, [""], 0))
        self.assertEqual(shortest(UP.times(5), ["", "r", "l"], 5), [("right", "")] * 5)

    def test_no_step(self):
        for most in range(6):
            self.assertEqual(shortest(STILL, ["l"], most), [])
            self.assertEqual(shortest(UP * ~UP, ["", "r", "l"], most), [])

    def test_the_first_in_order_of_several(self):
        # These two steps may be done in both orders.
        move = UP.under("l") * UP.under("r")
        self.assertEqual(shortest(move, ["r", "l"], 5), [("right", "l"), ("right", "r")])
        move = UP.under("l") * ~UP.under("r")
        self.assertEqual(shortest(move, ["r", "l"], 5), [("left", "r"), ("right", "l")])

    def test_lists_that_are_none(self):
        wrong = oracle.WRONG + [
            [], ["l", "l"], ["", ""], ["l", "r", "l"], ["l", "r", "", "lr"], ["lllll"], ["", "lrlrl"], ["x"],
            ["l", "R"], [None], [True], [("l",)], [["l"]], ("l",), "l", "", {"l": 1}, ["l", 1], [""] * 3, ["l ", "r"]]
        wrong = [value for value in wrong if value != ["l"]]
        for value in wrong:
            for most in (0, 5, -1, None):
                with self.assertRaises(InvalidList) as caught:
                    shortest(UP, value, most)
                self.assertIs(caught.exception.value, value)

    def test_lists_at_the_edges(self):
        for places in (["llll"], ["", "l", "rrrr"], ["rlrl", "llll", "rrrr"]):
            self.assertEqual(shortest(UP.under(places[0]), places, 1), [("right", places[0])])
            self.assertEqual(shortest(STILL, places, 0), [])

    def test_numbers_that_do_not_fit(self):
        for value in oracle.WRONG + [-1, 6, 7, 10 ** 30, True, False, "5", [5], (5,)]:
            if type(value) is int and 0 <= value <= 5:
                continue
            for move in (UP, STILL):
                with self.assertRaises(InvalidNumber) as caught:
                    shortest(move, [""], value)
                self.assertIs(caught.exception.value, value)

    def test_the_list_is_a_new_one(self):
        for move in (STILL, UP):
            found = shortest(move, [""], 5)
            found.append("mine")
            self.assertNotIn("mine", shortest(move, [""], 5))
        places = ["r", ""]
        shortest(UP, places, 5)
        self.assertEqual(places, ["r", ""])


if __name__ == "__main__":
    unittest.main()
