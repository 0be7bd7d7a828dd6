"""Promises [1], [2] and [3] for the modules that have landed, and the names of the interface."""

import copy
import importlib
import inspect
import random
import unittest

import oracle
from treeturns.errors import CannotTurn, InvalidAddress, InvalidList, InvalidScript, InvalidTree
from treeturns.scripts import lowered, opposite, pair_of, read_script, steps_of, text_of, turned
from treeturns.trees import grown, height, hung, is_tree, joined, leaves, nodes, part, replaced, shared, size

# Each function with arguments in the order and by the names of the interface, and the result.
CALLS = [
    (is_tree, {"value": "(..)"}, True),
    (size, {"tree": "((..).)"}, 2),
    (height, {"tree": "((..).)"}, 2),
    (part, {"tree": "((..).)", "address": "l"}, "(..)"),
    (leaves, {"tree": "((..).)"}, ["ll", "lr", "r"]),
    (nodes, {"tree": "((..).)"}, ["l", ""]),
    (replaced, {"tree": "((..).)", "address": "l", "other": "."}, "(..)"),
    (grown, {"tree": "(..)", "hung": [".", "((..).)"]}, "(.((..).))"),
    (hung, {"tree": "((..).)", "top": "(..)"}, ["(..)", "."]),
    (joined, {"one": "((..).)", "other": "(..)"}, "((..).)"),
    (shared, {"one": "((..).)", "other": "(..)"}, "(..)"),
    (turned, {"tree": "((..).)", "steps": [("right", "")]}, "(.(..))"),
    (steps_of, {"tree": "((..).)"}, [("right", "")]),
    (pair_of, {"steps": [("right", "")]}, ("((..).)", "(.(..))")),
    (opposite, {"steps": [("right", "l")]}, [("left", "l")]),
    (lowered, {"steps": [("right", "l")], "address": "r"}, [("right", "rl")]),
    (text_of, {"steps": [("right", "l")]}, ">l"),
    (read_script, {"text": ">l"}, [("right", "l")]),
]

INTERFACE = {
    "treeturns.trees": "is_tree size height part leaves nodes replaced grown hung joined shared",
    "treeturns.scripts": "turned steps_of pair_of opposite lowered text_of read_script",
}

# Marks for Order.check: a wrong value stands here; and another one stands here, which comes too late to be named.
WRONG, LATER = object(), object()


class Interface(unittest.TestCase):

    def test_each_function_is_defined_in_its_file(self):
        for module, names in INTERFACE.items():
            for name in names.split():
                found = getattr(importlib.import_module(module), name)
                self.assertTrue(inspect.isfunction(found))
                self.assertEqual(found.__module__, module)

    def test_every_function_is_among_the_calls(self):
        named = [name for names in INTERFACE.values() for name in names.split()]
        self.assertEqual([call.__name__ for call, _, _ in CALLS], named)


class Calls(unittest.TestCase):
    """[1]"""

    def test_by_position(self):
        for call, arguments, result in CALLS:
            with self.subTest(call.__name__):
                self.assertEqual(call(*arguments.values()), result)

    def test_by_name_in_another_order(self):
        for call, arguments, result in CALLS:
            with self.subTest(call.__name__):
                self.assertEqual(call(**dict(list(arguments.items())[::-1])), result)
                first, *rest = arguments.items()
                self.assertEqual(call(first[1], **dict(rest)), result)

    def test_no_other_parameters(self):
        for call, arguments, _ in CALLS:
            self.assertEqual(list(inspect.signature(call).parameters), list(arguments))


class Arguments(unittest.TestCase):
    """[2]"""

    def test_arguments_are_unchanged(self):
        for call, arguments, _ in CALLS:
            kept = copy.deepcopy(arguments)
            call(**arguments)
            self.assertEqual(arguments, kept, call.__name__)

    def test_wrong_arguments_are_unchanged(self):
        wrong = [[("right", ""), ["left", {"a": []}]], [".", [None]], {"a": [1]}]
        for call, arguments, _ in CALLS:
            for name in arguments:
                for value in wrong:
                    kept = copy.deepcopy(value)
                    try:
                        call(**dict(arguments, **{name: value}))
                    except (InvalidTree, InvalidAddress, InvalidList, InvalidScript):
                        pass
                    self.assertEqual(value, kept)

    def test_a_script_that_cannot_be_done_is_unchanged(self):
        steps = [("right", ""), ("right", "")]
        with self.assertRaises(CannotTurn):
            turned("((..).)", steps)
        self.assertEqual(steps, [("right", ""), ("right", "")])

    def test_equal_calls_give_equal_results(self):
        for call, arguments, result in CALLS:
            self.assertEqual([call(**copy.deepcopy(arguments)) for _ in range(3)], [result] * 3)

    def test_returned_lists_are_new_and_the_callers_own(self):
        for call, arguments, result in CALLS:
            if isinstance(result, list):
                first = call(**arguments)
                self.assertIsNot(first, call(**arguments))
                for argument in arguments.values():
                    self.assertIsNot(first, argument)
                first.append("mine")
                del first[0]
                self.assertEqual(call(**arguments), result, call.__name__)

    def test_lists_that_could_be_the_argument_are_new(self):
        steps = [("right", "l")]
        self.assertIsNot(lowered(steps, ""), steps)
        empty = []
        for found in (lowered(empty, "l"), opposite(empty)):
            self.assertEqual(found, [])
            self.assertIsNot(found, empty)
        self.assertIsNot(read_script(""), read_script(""))
        self.assertIsNot(steps_of("."), steps_of("."))

    def test_kinds_of_results(self):
        for call, arguments, result in CALLS:
            found = call(**arguments)
            self.assertIs(type(found), type(result), call.__name__)
            if isinstance(found, (list, tuple)):
                self.assertEqual([type(item) for item in found], [type(item) for item in result])

    def test_strings_of_derived_classes_come_back_plain(self):
        class Text(str):
            pass
        leaf, tree, empty = Text("."), Text("((..).)"), Text("")
        found = [part(tree, empty), part(leaf, empty), replaced(leaf, empty, tree), grown(leaf, [tree]),
                 joined(tree, leaf), joined(leaf, tree), shared(tree, tree), turned(tree, [])]
        found += hung(tree, leaf) + leaves(tree) + nodes(tree)
        for steps in (opposite([(Text("right"), Text("l"))]), lowered([(Text("right"), Text(""))], Text("l"))):
            found += [item for step in steps for item in step]
        found += [text_of([(Text("right"), Text("l"))]), read_script(Text(">l"))[0][1]]
        found += list(pair_of([(Text("right"), Text("l"))]))
        self.assertEqual({type(item) for item in found}, {str})


class Order(unittest.TestCase):
    """[2]: errors in the order of the parameters, with the argument itself as the field."""

    def check(self, error, argument, call, *arguments):
        for value in oracle.WRONG:
            given = [value if item is WRONG else [value] if item is LATER else item for item in arguments]
            with self.assertRaises(error) as caught:
                call(*given)
            self.assertIs(caught.exception.value, given[argument])

    def test_two_trees(self):
        for call in (hung, joined, shared):
            self.check(InvalidTree, 0, call, WRONG, LATER)
            self.check(InvalidTree, 0, call, WRONG, ".")
            self.check(InvalidTree, 1, call, ".", WRONG)

    def test_tree_and_address(self):
        self.check(InvalidTree, 0, part, WRONG, LATER)
        self.check(InvalidTree, 0, part, WRONG, "lll")
        self.check(InvalidAddress, 1, part, "(..)", WRONG)

    def test_replaced(self):
        self.check(InvalidTree, 0, replaced, WRONG, LATER, LATER)
        self.check(InvalidTree, 0, replaced, WRONG, "", ".")
        self.check(InvalidAddress, 1, replaced, "(..)", WRONG, LATER)
        self.check(InvalidAddress, 1, replaced, "(..)", "ll", WRONG)
        self.check(InvalidTree, 2, replaced, "(..)", "l", WRONG)

    def test_grown(self):
        self.check(InvalidTree, 0, grown, WRONG, LATER)
        self.check(InvalidTree, 0, grown, WRONG, ["."])
        self.check(InvalidList, 1, grown, "(..)", WRONG)

    def test_turned(self):
        self.check(InvalidTree, 0, turned, WRONG, LATER)
        self.check(InvalidTree, 0, turned, WRONG, [("right", "")])
        self.check(InvalidScript, 1, turned, "(..)", WRONG)
        steps = [("right", ""), ("right", "x")]
        with self.assertRaises(InvalidScript) as caught:
            turned(".", steps)
        self.assertIs(caught.exception.value, steps)
        with self.assertRaises(CannotTurn):
            turned(".", steps[:1])

    def test_lowered(self):
        self.check(InvalidScript, 0, lowered, WRONG, LATER)
        self.check(InvalidScript, 0, lowered, WRONG, "l")
        self.check(InvalidAddress, 1, lowered, [], WRONG)

    def test_values_that_hold_themselves_and_deep_ones(self):
        ring, deep = [], []
        ring.append(ring)
        for _ in range(100000):
            deep = [deep]
        for value in (ring, (ring,), deep, [(deep, ring)], [("right", deep)], {"a": ring}):
            for call in (lambda: size(value), lambda: hung(".", value), lambda: turned(value, value)):
                with self.assertRaises(InvalidTree) as caught:
                    call()
                self.assertIs(caught.exception.value, value)
            for call in (lambda: pair_of(value), lambda: text_of(value), lambda: read_script(value)):
                with self.assertRaises(InvalidScript) as caught:
                    call()
                self.assertIs(caught.exception.value, value)
            with self.assertRaises(InvalidAddress):
                part(".", value)
            with self.assertRaises(InvalidList):
                grown(".", value)


class Limits(unittest.TestCase):
    """[3]: within seconds. The tests allow a few seconds to each group of calls; none should need one."""

    def test_trees_all_to_one_side(self):
        for side in "lrz":
            for many in (300, 400):
                tree = oracle.leaning(many, side)
                with oracle.within(5):
                    self.assertIs(is_tree(tree), True)
                    self.assertEqual([size(tree), height(tree)], [many, many])
                    self.assertEqual([len(leaves(tree)), len(nodes(tree))], [many + 1, many])
                    self.assertEqual([part(tree, address) for address in leaves(tree)], ["."] * (many + 1))
                    deepest = max(leaves(tree), key=len)
                    self.assertEqual(size(replaced(tree, deepest, tree)), 2 * many)
                    self.assertEqual(hung(tree, tree), ["."] * (many + 1))
                    self.assertEqual(joined(tree, tree), tree)
                    self.assertEqual(shared(tree, tree), tree)
                    self.assertEqual(len(steps_of(tree)), many - 1)
                    for step in steps_of(tree)[::40]:
                        self.assertEqual(turned(turned(tree, [step]), opposite([step])), tree)

    def test_left_and_right_together(self):
        left, right = oracle.leaning(300, "l"), oracle.leaning(300, "r")
        with oracle.within(5):
            self.assertEqual(size(joined(left, right)), 599)
            self.assertEqual(shared(left, right), "(..)")
            self.assertIsNone(hung(left, right))

    def test_hundreds_of_trees_are_hung(self):
        top, tree = oracle.leaning(300, "z"), oracle.leaning(300, "l")
        with oracle.within(10):
            result = grown(top, [tree] * 301)
            self.assertEqual(result.count("("), 300 + 301 * 300)
        with oracle.within(5):
            for wrong in ([tree] * 300, [tree] * 300 + [None], ["."] * 500):
                with self.assertRaises(InvalidList):
                    grown(top, wrong)

    def test_all_rotations_of_a_long_tree(self):
        left, right = oracle.leaning(61, "l"), oracle.leaning(61, "r")
        with oracle.within(5):
            self.assertEqual(turned(left, [("right", "")] * 60), right)
            self.assertEqual(pair_of([("right", "")] * 60), (left, right))

    def test_scripts_of_sixty_steps_with_long_addresses(self):
        chance = random.Random(6)
        for _ in range(3):
            steps = [(chance.choice(["left", "right"]), "".join(chance.choices("lr", k=120))) for _ in range(60)]
            with oracle.within(5):
                before, after = pair_of(steps)
                self.assertEqual(before.count("("), after.count("("))
                self.assertEqual(read_script(text_of(steps)), steps)
                self.assertEqual(opposite(opposite(steps)), steps)
                self.assertEqual(pair_of(opposite(steps)), (after, before))
                self.assertEqual(turned(before, steps), after)

    def test_scripts_that_were_returned(self):
        tree = oracle.leaning(400, "z")
        with oracle.within(5):
            steps = steps_of(tree)
            self.assertEqual(len(pair_of(steps)[0]), len(pair_of(steps)[1]))
            self.assertEqual(read_script(text_of(steps)), steps)
            with self.assertRaises(CannotTurn):
                turned(tree, steps)
        with oracle.within(10):
            steps = [("right", "lr" * 60), ("left", "rl" * 60)] * 30
            for _ in range(50):
                steps = lowered(steps, "lrr" * 40)
            before, after = pair_of(steps)
            # The way down to where the two addresses part, both ways on from there, and a node for each rotation.
            self.assertEqual([len(steps[0][1]), before.count("(")], [6120, 6001 + 240 + 60])
            self.assertEqual(after.count("("), 6301)

    def test_addresses_that_lead_far_beyond(self):
        tree = oracle.leaning(300, "l")
        with oracle.within(5):
            self.assertEqual(part(tree, "l" * 120), oracle.leaning(180, "l"))
            for address in ("l" * 301, "r" * 120, "l" * 1000000, "l" * 1000000 + "x"):
                with self.assertRaises(InvalidAddress):
                    part(tree, address)
            with self.assertRaises(CannotTurn) as caught:
                turned(tree, [("right", "l" * 119), ("right", "l" * 100000)])
            self.assertEqual(caught.exception.place, 1)


if __name__ == "__main__":
    unittest.main()
