"""Promises [1] and [2] for all functions and for moves, [3] for trees and scripts, and the names of the interface.

For bushes and libraries they are in the files of tests of these.
"""

import copy
import importlib
import inspect
import random
import unittest

import oracle
from treeturns.arms import arm_script, counts, from_counts, normal, off_arm, shortest
from treeturns.bush import Bush
from treeturns.errors import (CannotMove, CannotTurn, InvalidAddress, InvalidList, InvalidMove, InvalidNumber,
                              InvalidScript, InvalidTree, NotCarried, TurnError, UnknownName)
from treeturns.heights import (balanced_change, change, change_nodes, fits, is_balanced, keeps, least_nodes, leans,
                               mends, spoiled, spoils)
from treeturns.library import Library
from treeturns.moves import Move, alike, parting, unmoved, widest
from treeturns.places import after, carried, compare, drifts, fixed, span
from treeturns.places import value as value_of
from treeturns.scripts import lowered, opposite, pair_of, read_script, steps_of, text_of, turned
from treeturns.trees import grown, height, hung, is_tree, joined, leaves, nodes, part, replaced, shared, size
from treeturns.ways import arm_way, count_ways, distance, farthest, shapes, way

UP, STILL = Move("((..).)", "(.(..))"), Move(".", ".")
TWICE = Move("(((..).).)", "(.(.(..)))")

# Each function with arguments in the order and by the names of the interface, and the result.
FUNCTIONS = [
    (is_tree, {"value": "(..)"}, True),
    (size, {"tree": "((..).)"}, 2),
    (height, {"tree": "((..).)"}, 2),
    (part, {"tree": "((..).)", "address": "l"}, "(..)"),
    (leaves, {"tree": "((..).)"}, ["ll", "lr", "r"]),
    (nodes, {"tree": "((..).)"}, ["l", ""]),
    (replaced, {"tree": "((..).)", "address": "l", "other": "."}, "(..)"),
    (grown, {"tree": "(..)", "hung": [".", "((..).)"]}, "(.((..).))"),
    (hung, {"tree": "((..).)", "top": "(..)"}, ["(..)", "."]),
    (joined, {"one": "((..).)", "other": "(..)"}, "((..).)"),
    (shared, {"one": "((..).)", "other": "(..)"}, "(..)"),
    (turned, {"tree": "((..).)", "steps": [("right", "")]}, "(.(..))"),
    (steps_of, {"tree": "((..).)"}, [("right", "")]),
    (pair_of, {"steps": [("right", "")]}, ("((..).)", "(.(..))")),
    (opposite, {"steps": [("right", "l")]}, [("left", "l")]),
    (lowered, {"steps": [("right", "l")], "address": "r"}, [("right", "rl")]),
    (text_of, {"steps": [("right", "l")]}, ">l"),
    (read_script, {"text": ">l"}, [("right", "l")]),
    (alike, {"one": UP, "other": STILL}, False),
    (parting, {"one": UP, "other": STILL}, ("((..).)", "(.(..))", "((..).)")),
    (widest, {"move": UP * ~UP * UP}, UP),
    (unmoved, {"move": Move("(((..).).)", "((.(..)).)")}, ["r"]),
    (off_arm, {"tree": "((..).)"}, 1),
    (counts, {"tree": "((..).)"}, [1, 0, 0]),
    (arm_script, {"move": TWICE}, [("right", ""), ("right", "")]),
    (from_counts, {"ups": [2], "downs": [1]}, UP),
    (normal, {"move": UP}, ([1], [])),
    (shortest, {"move": TWICE, "places": ["r", ""], "most": 3}, [("right", ""), ("right", "")]),
    (span, {"address": "rl"}, ((1, 2), (3, 4))),
    (value_of, {"move": UP, "place": (1, 2)}, (3, 4)),
    (carried, {"move": UP, "address": "llr"}, "lr"),
    (after, {"move": UP, "address": "lll", "times": 2}, ("l", "", 0, "")),
    (fixed, {"move": UP}, [((0, 1), (0, 1)), ((1, 1), (1, 1))]),
    (drifts, {"move": UP}, ["up"]),
    (compare, {"one": STILL, "other": UP}, -1),
    (is_balanced, {"tree": "((..).)", "slack": 1}, True),
    (least_nodes, {"height": 3, "slack": 1}, 4),
    (fits, {"tree": "((..).)", "heights": [1, 0, 0], "slack": 1}, False),
    (leans, {"tree": "((..).)", "heights": [1, 0, 0]}, [1, 2]),
    (change, {"move": UP}, (-1, 1)),
    (change_nodes, {"move": UP, "amount": 1}, 3),
    (keeps, {"move": UP, "slack": 1}, False),
    (spoiled, {"move": UP, "slack": 2}, [0, 0, 2]),
    (balanced_change, {"move": UP, "slack": 1}, (0, 1)),
    (spoils, {"tree": "((..).)", "leaf": 2, "by": -1, "slack": 0}, [[0, 0, 1]]),
    (mends, {"tree": "((..).)", "rows": [[1, 0, 0]], "slack": 1, "most": 2}, [[("right", "")]]),
    (shapes, {"nodes": 2}, ["((..).)", "(.(..))"]),
    (distance, {"one": "(((..).).)", "other": "(.(.(..)))"}, 2),
    (way, {"one": "((..).)", "other": "(.(..))"}, [("right", "")]),
    (count_ways, {"one": "(((..).).)", "other": "(.(.(..)))"}, 1),
    (arm_way, {"one": "((.(..)).)", "other": "((..)(..))"}, [("right", ""), ("right", "r"), ("left", "")]),
    (farthest, {"tree": "((..).)"}, (1, ["(.(..))"])),
]

# The same for classes and methods.
METHODS = [
    (Move, {"before": "((..).)", "after": "(.(..))"}, UP),
    (Move.of, {"steps": [("right", "")]}, UP),
    (UP, {"tree": "(((..).).)"}, "((..)(..))"),
    (UP.can, {"tree": "(((..).).)"}, True),
    (UP.times, {"count": 2}, TWICE),
    (UP.under, {"address": "l"}, Move("(((..).).)", "((.(..)).)")),
]
CALLS = FUNCTIONS + METHODS

INTERFACE = {
    "treeturns.trees": "is_tree size height part leaves nodes replaced grown hung joined shared",
    "treeturns.scripts": "turned steps_of pair_of opposite lowered text_of read_script",
    "treeturns.moves": "alike parting widest unmoved",
    "treeturns.arms": "off_arm counts arm_script from_counts normal shortest",
    "treeturns.places": "span value carried after fixed drifts compare",
    "treeturns.heights": """is_balanced least_nodes fits leans change change_nodes keeps spoiled balanced_change spoils
        mends""",
    "treeturns.ways": "shapes distance way count_ways arm_way farthest",
}
OWN_OF_MOVE = """before after of __call__ can __eq__ __mul__ __invert__ times __lt__ __le__ __gt__ __ge__ __repr__
under""".split()

# Marks for Order.check: a wrong value stands here; and another one stands here, which comes too late to be named.
WRONG, LATER = object(), object()


class Interface(unittest.TestCase):

    def test_each_function_is_defined_in_its_file(self):
        for module, names in INTERFACE.items():
            for name in names.split():
                found = getattr(importlib.import_module(module), name)
                self.assertTrue(inspect.isfunction(found))
                self.assertEqual(found.__module__, module)

    def test_every_function_is_among_the_calls(self):
        named = [name for names in INTERFACE.values() for name in names.split()]
        self.assertEqual([call.__name__ for call, _, _ in FUNCTIONS], named)

    def test_the_class_and_its_own_methods(self):
        self.assertEqual(Move.__module__, "treeturns.moves")
        self.assertTrue(set(OWN_OF_MOVE) <= set(vars(Move)))
        self.assertEqual(Move.__bases__, (object,))


class Calls(unittest.TestCase):
    """[1]"""

    def test_by_position(self):
        for call, arguments, result in CALLS:
            with self.subTest(str(call)):
                self.assertEqual(call(*arguments.values()), result)

    def test_by_name_in_another_order(self):
        for call, arguments, result in CALLS:
            with self.subTest(str(call)):
                self.assertEqual(call(**dict(list(arguments.items())[::-1])), result)
                first, *rest = arguments.items()
                self.assertEqual(call(first[1], **dict(rest)), result)

    def test_no_other_parameters(self):
        for call, arguments, _ in CALLS:
            self.assertEqual(list(inspect.signature(call).parameters), list(arguments))


class Arguments(unittest.TestCase):
    """[2]"""

    def test_arguments_are_unchanged(self):
        for call, arguments, _ in CALLS:
            kept = copy.deepcopy(arguments)
            call(**arguments)
            self.assertEqual(arguments, kept, str(call))

    def test_wrong_arguments_are_unchanged(self):
        wrong = [[("right", ""), ["left", {"a": []}]], [".", [None]], {"a": [1]}]
        for call, arguments, _ in CALLS:
            for name in arguments:
                for value in wrong:
                    kept = copy.deepcopy(value)
                    try:
                        call(**dict(arguments, **{name: value}))
                    except TurnError:
                        pass
                    self.assertEqual(value, kept)

    def test_a_script_that_cannot_be_done_is_unchanged(self):
        steps = [("right", ""), ("right", "")]
        with self.assertRaises(CannotTurn):
            turned("((..).)", steps)
        self.assertEqual(steps, [("right", ""), ("right", "")])

    def test_equal_calls_give_equal_results(self):
        for call, arguments, result in CALLS:
            self.assertEqual([call(**copy.deepcopy(arguments)) for _ in range(3)], [result] * 3)

    def test_returned_lists_are_new_and_the_callers_own(self):
        for call, arguments, result in CALLS:
            if isinstance(result, list):
                first = call(**arguments)
                self.assertIsNot(first, call(**arguments))
                for argument in arguments.values():
                    self.assertIsNot(first, argument)
                first.append("mine")
                del first[0]
                self.assertEqual(call(**arguments), result, str(call))

    def test_changed_arguments_have_no_effect_later(self):
        steps, ups = [("right", "")], [1]
        moves = [Move.of(steps), from_counts(ups, [])]
        steps.append(("left", "lll"))
        ups[0] = 7
        self.assertEqual(moves, [UP, UP])
        rows = [[0, 0, 0]]
        found = [mends("((..).)", rows, 1, 2), leans("((..).)", rows[0])]
        rows[0][0] = 5
        del rows[:]
        self.assertEqual(found, [[[]], [0, 1]])

    def test_moves_are_unchanged_by_calls(self):
        move = Move("((.(..)).)", "((..)(..))")
        places = ["", "r"]
        move("((.(..)).)"), move.can("."), move.times(-3), move.under("r"), move * move, ~move, move < move * move
        alike(move, UP), parting(move, UP), widest(move), unmoved(move), arm_script(move), normal(move)
        shortest(move, places, 5), value_of(move, (1, 2)), carried(move, "ll"), after(move, "rr", 9), fixed(move)
        drifts(move), compare(move, UP), change(move), change_nodes(move, 1), keeps(move, 1), spoiled(move, 1)
        balanced_change(move, 1)
        for call in (lambda: move("."), lambda: move.times(None), lambda: carried(move, "")):
            with self.assertRaises(TurnError):
                call()
        self.assertEqual([move, places], [Move("((.(..)).)", "((..)(..))"), ["", "r"]])

    def test_no_list_occurs_twice(self):
        for move in (STILL, UP, ~UP):
            for found in (normal(move), normal(move)):
                self.assertIsNot(found[0], found[1])
        first = normal(UP)
        first[0].append(5)
        self.assertEqual(normal(UP), ([1], []))

    def test_lists_that_could_be_the_argument_are_new(self):
        steps = [("right", "l")]
        self.assertIsNot(lowered(steps, ""), steps)
        empty = []
        for found in (lowered(empty, "l"), opposite(empty), mends(".", [[0]], 0, 0)[0], way(".", "."), arm_way(".", ".")):
            self.assertEqual(found, [])
            self.assertIsNot(found, empty)
        self.assertIsNot(read_script(""), read_script(""))
        self.assertIsNot(steps_of("."), steps_of("."))

    def test_kinds_of_results(self):
        for call, arguments, result in CALLS:
            found = call(**arguments)
            self.assertIs(type(found), type(result), str(call))
            if isinstance(found, (list, tuple)):
                self.assertEqual([type(item) for item in found], [type(item) for item in result])

    def test_strings_of_derived_classes_come_back_plain(self):
        class Text(str):
            pass
        leaf, tree, empty = Text("."), Text("((..).)"), Text("")
        found = [part(tree, empty), part(leaf, empty), replaced(leaf, empty, tree), grown(leaf, [tree]),
                 joined(tree, leaf), joined(leaf, tree), shared(tree, tree), turned(tree, [])]
        found += hung(tree, leaf) + leaves(tree) + nodes(tree)
        for steps in (opposite([(Text("right"), Text("l"))]), lowered([(Text("right"), Text(""))], Text("l"))):
            found += [item for step in steps for item in step]
        found += [text_of([(Text("right"), Text("l"))]), read_script(Text(">l"))[0][1]]
        found += list(pair_of([(Text("right"), Text("l"))]))
        move = Move(Text("((..).)"), Text("(.(..))"))
        scripted = Move.of([(Text("right"), Text(""))])
        for made in (move, ~move, move.under(Text("")), scripted, widest(move), move.times(1)):
            found += [made.before, made.after, made(Text(made.before)), repr(made)]
        found += [carried(move, Text("ll")), carried(STILL, tree.__class__("l")), *unmoved(STILL), *drifts(move)]
        found += [item for times in (0, 1, 9) for item in after(move, Text("rl"), times) if item.__class__ is not int]
        found += [item for step in shortest(move, [Text("")], 3) + arm_script(move) for item in step]
        self.assertEqual({type(item) for item in found}, {str})


class Whole(unittest.TestCase):
    """[2]: equal calls tell the same, in any order and after whatever was called or changed in between."""

    def test_any_order(self):
        chance = random.Random(2)
        calls = list(CALLS)
        for _ in range(20):
            chance.shuffle(calls)
            for call, arguments, result in calls:
                given = copy.deepcopy(arguments)
                found = call(**given)
                self.assertEqual(found, result, str(call))
                spoil(found)
                for argument in given.values():
                    spoil(argument)

    def test_larger_arguments_in_any_order(self):
        other = "(.((..)((..).)))"
        moves = [("(((.(..))(..)).)", "((.(.(..)))(..))"), ("((((..).).).)", "(.(.(.(..))))"),
                 ("(((..).)((..).))", "(.((..)((..).)))")]
        calls = [lambda made=made, call=call: call(Move(*made)) for made in moves
                 for call in (change, widest, unmoved, normal, arm_script, fixed, drifts, lambda move: move.times(5))]
        calls += [lambda made=made, call=call, slack=slack: call(Move(*made), slack) for made in moves
                  for call in (keeps, spoiled, balanced_change, change_nodes) for slack in (0, 1, 2)]
        calls += [lambda call=call: call("(((..).)((..).))", other) for call in (way, arm_way, distance, count_ways)]
        calls += [lambda: mends("(((((..).).).).)", [[0] * 6, [1, 0, 0, 0, 0, 0]], 1, 6), lambda: shapes(5),
                  lambda: farthest(other), lambda: spoils(other, 2, -1, 1), lambda: least_nodes(30, 1),
                  lambda: shortest(Move(*moves[1]), ["r", ""], 5), lambda: turned(moves[1][0], [("right", "")] * 3)]
        kept = [repr(call()) for call in calls]
        chance = random.Random(3)
        for _ in range(4):
            order = list(range(len(calls)))
            chance.shuffle(order)
            for index in order:
                found = calls[index]()
                self.assertEqual(repr(found), kept[index])
                spoil(found)

    def test_kinds_do_not_mix(self):
        # What is equal to a number in Python is none here, also behind a call with this number.
        for call, wrong in ((lambda number: least_nodes(number, 1), True), (lambda number: shapes(number), True),
                            (lambda number: spoils("(..)", number, 1, 1), False), (lambda number: keeps(UP, number), True),
                            (lambda number: mends(".", [[0]], number, 1), False), (lambda number: UP.times(number), True),
                            (lambda number: change_nodes(UP, number), True)):
            for _ in range(2):
                call(int(wrong))
                with self.assertRaises(InvalidNumber) as caught:
                    call(wrong)
                self.assertIs(caught.exception.value, wrong)


def spoil(value):
    """Change all lists within a value."""
    if isinstance(value, (list, tuple)):
        for item in value:
            spoil(item)
    if isinstance(value, list):
        value[:] = ["spoilt", 0] + value[1:]


class Order(unittest.TestCase):
    """[2]: errors in the order of the parameters, with the argument itself as the field."""

    def check(self, error, argument, call, *arguments):
        for value in oracle.WRONG:
            given = [value if item is WRONG else [value] if item is LATER else item for item in arguments]
            with self.assertRaises(error) as caught:
                call(*given)
            self.assertIs(caught.exception.value, given[argument])

    def test_two_trees(self):
        for call in (hung, joined, shared):
            self.check(InvalidTree, 0, call, WRONG, LATER)
            self.check(InvalidTree, 0, call, WRONG, ".")
            self.check(InvalidTree, 1, call, ".", WRONG)

    def test_tree_and_address(self):
        self.check(InvalidTree, 0, part, WRONG, LATER)
        self.check(InvalidTree, 0, part, WRONG, "lll")
        self.check(InvalidAddress, 1, part, "(..)", WRONG)

    def test_replaced(self):
        self.check(InvalidTree, 0, replaced, WRONG, LATER, LATER)
        self.check(InvalidTree, 0, replaced, WRONG, "", ".")
        self.check(InvalidAddress, 1, replaced, "(..)", WRONG, LATER)
        self.check(InvalidAddress, 1, replaced, "(..)", "ll", WRONG)
        self.check(InvalidTree, 2, replaced, "(..)", "l", WRONG)

    def test_grown(self):
        self.check(InvalidTree, 0, grown, WRONG, LATER)
        self.check(InvalidTree, 0, grown, WRONG, ["."])
        self.check(InvalidList, 1, grown, "(..)", WRONG)

    def test_turned(self):
        self.check(InvalidTree, 0, turned, WRONG, LATER)
        self.check(InvalidTree, 0, turned, WRONG, [("right", "")])
        self.check(InvalidScript, 1, turned, "(..)", WRONG)
        steps = [("right", ""), ("right", "x")]
        with self.assertRaises(InvalidScript) as caught:
            turned(".", steps)
        self.assertIs(caught.exception.value, steps)
        with self.assertRaises(CannotTurn):
            turned(".", steps[:1])

    def test_lowered(self):
        self.check(InvalidScript, 0, lowered, WRONG, LATER)
        self.check(InvalidScript, 0, lowered, WRONG, "l")
        self.check(InvalidAddress, 1, lowered, [], WRONG)

    def test_moves_are_refused_by_trees_and_scripts(self):
        for move in (STILL, UP):
            self.assertIs(is_tree(move), False)
            for call in (size, height, leaves, nodes, steps_of, off_arm, counts):
                self.refused(InvalidTree, move, call, move)
            for call in (pair_of, opposite, text_of, read_script, Move.of):
                self.refused(InvalidScript, move, call, move)
            for call in (hung, joined, shared):
                self.refused(InvalidTree, move, call, move, move)
                self.refused(InvalidTree, move, call, ".", move)
            self.refused(InvalidTree, move, part, move, move)
            self.refused(InvalidAddress, move, part, ".", move)
            self.refused(InvalidTree, move, replaced, move, move, move)
            self.refused(InvalidAddress, move, replaced, ".", move, move)
            self.refused(InvalidTree, move, replaced, ".", "", move)
            self.refused(InvalidTree, move, grown, move, move)
            self.refused(InvalidList, move, grown, ".", move)
            self.refused(InvalidTree, move, turned, move, move)
            self.refused(InvalidScript, move, turned, ".", move)
            self.refused(InvalidScript, move, lowered, move, move)
            self.refused(InvalidAddress, move, lowered, [], move)
            for given in ([move], [("right", move)], [(move, "")], [(move, move)], [("right", ""), move]):
                self.refused(InvalidScript, given, turned, ".", given)
                self.refused(InvalidList, given, grown, ".", given)

    def refused(self, error, wrong, call, *arguments):
        with self.assertRaises(error) as caught:
            call(*arguments)
        self.assertIs(caught.exception.value, wrong)

    def test_move(self):
        self.check(InvalidTree, 0, Move, WRONG, LATER)
        self.check(InvalidTree, 0, Move, WRONG, "(..)")
        self.check(InvalidTree, 1, Move, "(..)", WRONG)
        with self.assertRaises(InvalidMove) as caught:
            Move(before="(..)", after=".")
        self.assertEqual(caught.exception.value, ("(..)", "."))
        self.check(InvalidTree, 0, UP, WRONG)
        self.check(InvalidTree, 0, UP.can, WRONG)
        with self.assertRaises(CannotMove) as caught:
            UP("(..)")
        self.assertEqual(caught.exception.value, "(..)")

    def check_moves(self, call, *later):
        """InvalidMove for the first argument, whatever the later ones are."""
        for wrong in oracle.NO_MOVES:
            for rest in (later, [[wrong]] * len(later)):
                with self.assertRaises(InvalidMove) as caught:
                    call(wrong, *rest)
                self.assertIs(caught.exception.value, wrong)

    def test_two_moves(self):
        for call in (alike, parting, compare):
            self.check_moves(call, UP)
            self.check_moves(lambda wrong: call(UP, wrong))

    def test_one_move(self):
        for call in (widest, unmoved, arm_script, normal, fixed, drifts):
            self.check_moves(call)

    def test_shortest(self):
        self.check_moves(shortest, [""], 1)
        self.check_moves(shortest, [], 6)
        wrongs = [wrong for wrong in oracle.WRONG if wrong != ["l"]]
        for wrong in wrongs:
            for most in (5, 6, [wrong]):
                self.refused(InvalidList, wrong, shortest, UP, wrong, most)
        self.refused(InvalidNumber, -1, shortest, UP, [""], -1)

    def test_from_counts(self):
        for wrong in [item for item in oracle.WRONG if item != []]:
            self.refused(InvalidList, wrong, from_counts, wrong, [wrong])
            self.refused(InvalidList, wrong, from_counts, [], wrong)

    def test_value(self):
        self.check_moves(value_of, (1, 2))
        self.check_moves(value_of, (2, 1))
        self.check(InvalidNumber, 1, value_of, UP, WRONG)

    def test_carried_and_after(self):
        self.check_moves(carried, "ll")
        self.check(InvalidAddress, 1, carried, UP, WRONG)
        self.check_moves(after, "ll", 1)
        self.check(InvalidAddress, 1, after, UP, WRONG, LATER)
        self.check(InvalidAddress, 1, after, UP, WRONG, 1)
        for wrong in [item for item in oracle.WRONG if type(item) is not int]:
            self.refused(InvalidNumber, wrong, after, UP, "", wrong)
        with self.assertRaises(NotCarried) as caught:
            after(UP, "", 1)
        self.assertEqual(caught.exception.address, "")

    def test_values_that_hold_themselves_and_deep_ones(self):
        ring, deep = [], []
        ring.append(ring)
        for _ in range(100000):
            deep = [deep]
        for value in (ring, (ring,), deep, [(deep, ring)], [("right", deep)], {"a": ring}):
            for call in (lambda: size(value), lambda: hung(".", value), lambda: turned(value, value),
                         lambda: is_balanced(value, value), lambda: leans(value, value), lambda: farthest(value),
                         lambda: mends(value, value, value, value), lambda: way(".", value), lambda: Bush(value)):
                with self.assertRaises(InvalidTree) as caught:
                    call()
                self.assertIs(caught.exception.value, value)
            for call in (lambda: pair_of(value), lambda: text_of(value), lambda: read_script(value)):
                with self.assertRaises(InvalidScript) as caught:
                    call()
                self.assertIs(caught.exception.value, value)
            with self.assertRaises(InvalidAddress):
                part(".", value)
            with self.assertRaises(InvalidList):
                grown(".", value)
            for call in (lambda: alike(UP, value), lambda: widest(value), lambda: after(value, value, value),
                         lambda: change(value), lambda: keeps(value, value), lambda: Library().put("a", value)):
                with self.assertRaises(InvalidMove):
                    call()
            self.assertIs(UP == value, False)
            for call in (lambda: UP.times(value), lambda: value_of(UP, value), lambda: shortest(UP, [""], value),
                         lambda: spoiled(UP, value), lambda: shapes(value), lambda: change_nodes(UP, value),
                         lambda: spoils(".", value, value, value), lambda: spoils(".", 0, value, value)):
                with self.assertRaises(InvalidNumber):
                    call()
            for call in (lambda: shortest(UP, value, 1), lambda: from_counts(value, value),
                         lambda: fits("((..).)", value, 1), lambda: leans(".", [value]), lambda: mends(".", value, 1, 1),
                         lambda: mends(".", [value], value, value)):
                with self.assertRaises(InvalidList):
                    call()
            self.assertIs(value in Bush("."), False)
            self.assertIs(value in Library(), False)
            self.assertIs(Bush(".") == value or Library() == value, False)
            for call in (lambda: Library().drop(value), lambda: Library().together(value)):
                with self.assertRaises(UnknownName):
                    call()


class Limits(unittest.TestCase):
    """[3]: within seconds. The tests allow a few seconds to each group of calls; none should need one."""

    def test_trees_all_to_one_side(self):
        for side in "lrz":
            for many in (300, 400):
                tree = oracle.leaning(many, side)
                with oracle.within(5):
                    self.assertIs(is_tree(tree), True)
                    self.assertEqual([size(tree), height(tree)], [many, many])
                    self.assertEqual([len(leaves(tree)), len(nodes(tree))], [many + 1, many])
                    self.assertEqual([part(tree, address) for address in leaves(tree)], ["."] * (many + 1))
                    deepest = max(leaves(tree), key=len)
                    self.assertEqual(size(replaced(tree, deepest, tree)), 2 * many)
                    self.assertEqual(hung(tree, tree), ["."] * (many + 1))
                    self.assertEqual(joined(tree, tree), tree)
                    self.assertEqual(shared(tree, tree), tree)
                    self.assertEqual(len(steps_of(tree)), many - 1)
                    for step in steps_of(tree)[::40]:
                        self.assertEqual(turned(turned(tree, [step]), opposite([step])), tree)

    def test_left_and_right_together(self):
        left, right = oracle.leaning(300, "l"), oracle.leaning(300, "r")
        with oracle.within(5):
            self.assertEqual(size(joined(left, right)), 599)
            self.assertEqual(shared(left, right), "(..)")
            self.assertIsNone(hung(left, right))

    def test_hundreds_of_trees_are_hung(self):
        top, tree = oracle.leaning(300, "z"), oracle.leaning(300, "l")
        with oracle.within(10):
            result = grown(top, [tree] * 301)
            self.assertEqual(result.count("("), 300 + 301 * 300)
        with oracle.within(5):
            for wrong in ([tree] * 300, [tree] * 300 + [None], ["."] * 500):
                with self.assertRaises(InvalidList):
                    grown(top, wrong)

    def test_all_rotations_of_a_long_tree(self):
        left, right = oracle.leaning(61, "l"), oracle.leaning(61, "r")
        with oracle.within(5):
            self.assertEqual(turned(left, [("right", "")] * 60), right)
            self.assertEqual(pair_of([("right", "")] * 60), (left, right))

    def test_scripts_of_sixty_steps_with_long_addresses(self):
        chance = random.Random(6)
        for _ in range(3):
            steps = [(chance.choice(["left", "right"]), "".join(chance.choices("lr", k=120))) for _ in range(60)]
            with oracle.within(5):
                before, after = pair_of(steps)
                self.assertEqual(before.count("("), after.count("("))
                self.assertEqual(read_script(text_of(steps)), steps)
                self.assertEqual(opposite(opposite(steps)), steps)
                self.assertEqual(pair_of(opposite(steps)), (after, before))
                self.assertEqual(turned(before, steps), after)

    def test_scripts_that_were_returned(self):
        tree = oracle.leaning(400, "z")
        with oracle.within(5):
            steps = steps_of(tree)
            self.assertEqual(len(pair_of(steps)[0]), len(pair_of(steps)[1]))
            self.assertEqual(read_script(text_of(steps)), steps)
            with self.assertRaises(CannotTurn):
                turned(tree, steps)
        with oracle.within(10):
            steps = [("right", "lr" * 60), ("left", "rl" * 60)] * 30
            for _ in range(50):
                steps = lowered(steps, "lrr" * 40)
            before, after = pair_of(steps)
            # The way down to where the two addresses part, both ways on from there, and a node for each rotation.
            self.assertEqual([len(steps[0][1]), before.count("(")], [6120, 6001 + 240 + 60])
            self.assertEqual(after.count("("), 6301)

    def test_addresses_that_lead_far_beyond(self):
        tree = oracle.leaning(300, "l")
        with oracle.within(5):
            self.assertEqual(part(tree, "l" * 120), oracle.leaning(180, "l"))
            for address in ("l" * 301, "r" * 120, "l" * 1000000, "l" * 1000000 + "x"):
                with self.assertRaises(InvalidAddress):
                    part(tree, address)
            with self.assertRaises(CannotTurn) as caught:
                turned(tree, [("right", "l" * 119), ("right", "l" * 100000)])
            self.assertEqual(caught.exception.place, 1)


if __name__ == "__main__":
    unittest.main()
