"""Promises [20], [21] and [22]."""

import itertools
import random
import unittest

import oracle
from treeturns.errors import CannotTurn, InvalidAddress, InvalidScript, InvalidTree
from treeturns.scripts import lowered, opposite, pair_of, read_script, steps_of, text_of, turned
from treeturns.trees import grown, hung, is_tree, leaves, size

SMALL = oracle.texts(5)
STEPS = [(word, address) for word in ("right", "left") for address in oracle.addresses(2)]
SHORT = [list(steps) for many in range(3) for steps in itertools.product(STEPS, repeat=many)]
WRONG_SCRIPTS = oracle.WRONG + [
    "", ">", "> <", ("right", ""), [None], [[]], [()], ["right"], [("right", "").__class__], [("right", None)],
    [(None, "")], [(True, "")], [("right", ("",))], [(("right",), "")], [("right", "l "), ("left", "")],
    [("right", ""), ("left", "lx")], [("right", ""), ["left", ""]], [("Right", "")], [(">", "")], [("", "")],
    [("right", ""), None], {("right", ""): 0}, [{"right": ""}], [("right", ["l"])], [(["right"], "")], [("r", "l")],
    [({}, "")], [("right", {})], [("rightleft", "")], ["ab"],
]


def some_scripts(many, length, letters, seed):
    """Scripts by chance, the same ones in each run."""
    chance = random.Random(seed)
    for _ in range(many):
        yield [(chance.choice(["left", "right"]), "".join(chance.choices("lr", k=chance.randint(0, letters))))
               for _ in range(length)]


class Example(unittest.TestCase):

    def test_as_it_stands(self):
        script = [("left", "l"), ("right", "")]
        self.assertEqual(
            [pair_of(script), turned("(((..).).)", [("right", "")] * 2), text_of(opposite(script)),
             read_script(">rl <") == lowered([("right", "l")], "r") + [("left", "")]],
            [('((.(..)).)', '((..)(..))'), '(.(.(..)))', '< >l', True])


class Steps(unittest.TestCase):
    """[20]"""

    def test_both_steps_at_the_root(self):
        a, b, c = "(..)", "(.(..))", "((..).)"
        self.assertEqual(turned(f"(({a}{b}){c})", [("right", "")]), f"({a}({b}{c}))")
        self.assertEqual(turned(f"({a}({b}{c}))", [("left", "")]), f"(({a}{b}){c})")

    def test_a_step_below_leaves_the_rest(self):
        self.assertEqual(turned("((..)((..).))", [("right", "r")]), "((..)(.(..)))")
        self.assertEqual(turned("((.(..))(..))", [("left", "l")]), "(((..).)(..))")

    def test_each_step_on_each_small_tree(self):
        for tree in SMALL:
            pairs = oracle.read(tree)
            for word, address in itertools.product(("right", "left"), oracle.addresses(5)):
                expected = oracle.step(pairs, word, address)
                if expected is None:
                    with self.assertRaises(CannotTurn) as caught:
                        turned(tree, [(word, address)])
                    self.assertEqual(caught.exception.place, 0)
                else:
                    self.assertEqual(turned(tree, [(word, address)]), oracle.text(expected))

    def test_the_index_is_that_of_the_first_step_that_cannot_be_done(self):
        right, left = ("right", ""), ("left", "")
        for steps, place in [([right, right], 1), ([left], 0), ([right, left, right, ("left", "l"), left], 3),
                             ([("right", "lll"), right], 0), ([right, ("left", "rrrr")], 1)]:
            with self.assertRaises(CannotTurn) as caught:
                turned("((..).)", steps)
            self.assertEqual(caught.exception.place, place)
            self.assertIs(type(caught.exception.place), int)

    def test_short_scripts_on_small_trees(self):
        for tree, script in itertools.product(oracle.texts(4), SHORT):
            expected = oracle.run(oracle.read(tree), script)
            if isinstance(expected, int):
                with self.assertRaises(CannotTurn) as caught:
                    turned(tree, script)
                self.assertEqual(caught.exception.place, expected)
            else:
                self.assertEqual(turned(tree, script), oracle.text(expected))

    def test_the_empty_script(self):
        for tree in SMALL:
            self.assertEqual(turned(tree, []), tree)

    def test_steps_of_has_all_steps_in_order(self):
        for tree in oracle.texts(6):
            pairs = oracle.read(tree)
            places = [address for address, found in oracle.all_parts(pairs) if found is not None]
            expected = [(word, address) for word in ("left", "right") for address in places
                        if oracle.step(pairs, word, address) is not None]
            self.assertEqual(steps_of(tree), sorted(expected))

    def test_steps_of_at_the_edges(self):
        self.assertEqual([steps_of("."), steps_of("(..)")], [[], []])
        self.assertEqual(steps_of("((.(..)).)"), [("left", "l"), ("right", "")])

    def test_wrong_trees(self):
        for value in oracle.WRONG + ["", [], "l"]:
            for call in (lambda: turned(value, []), lambda: steps_of(value)):
                with self.assertRaises(InvalidTree) as caught:
                    call()
                self.assertIs(caught.exception.value, value)


class WrongScripts(unittest.TestCase):

    def test_values_that_are_no_scripts(self):
        calls = [lambda value: turned("((..).)", value), pair_of, opposite, lambda value: lowered(value, "l"), text_of]
        for call in calls:
            for value in WRONG_SCRIPTS:
                with self.subTest(value):
                    with self.assertRaises(InvalidScript) as caught:
                        call(value)
                    self.assertIs(caught.exception.value, value)


class Pairs(unittest.TestCase):
    """[21]"""

    def test_the_empty_script(self):
        self.assertEqual(pair_of([]), (".", "."))

    def test_one_step(self):
        self.assertEqual(pair_of([("right", "")]), ("((..).)", "(.(..))"))
        self.assertEqual(pair_of([("left", "r")]), ("(.(.(..)))", "(.((..).))"))

    def test_there_and_back_needs_more_than_nothing(self):
        self.assertEqual(pair_of([("right", ""), ("left", "")]), ("((..).)", "((..).)"))

    def test_exactly_the_trees_into_which_the_first_one_grows(self):
        chosen = SHORT + list(some_scripts(100, 3, 2, 1)) + list(some_scripts(50, 4, 1, 2))
        trees = [(tree, oracle.read(tree)) for tree in oracle.texts(5)]
        for script in chosen:
            before, after = pair_of(script)
            for tree, pairs in trees:
                result = oracle.run(pairs, script)
                trees_below = hung(tree, before)
                if isinstance(result, int):
                    self.assertIsNone(trees_below)
                else:
                    self.assertEqual(oracle.text(result), grown(after, trees_below))

    def test_no_tree_with_fewer_nodes(self):
        for script in SHORT:
            before, after = pair_of(script)
            self.assertEqual(turned(before, script), after)
            self.assertEqual(size(before), size(after))
            for tree in oracle.texts(min(5, size(before))):
                if tree != before:
                    with self.assertRaises(CannotTurn):
                        turned(tree, script)

    def test_longer_scripts(self):
        chance = random.Random(3)
        for script in some_scripts(60, 20, 6, 4):
            before, after = pair_of(script)
            self.assertEqual(turned(before, script), after)
            self.assertEqual(turned(after, opposite(script)), before)
            trees = [chance.choice(SMALL) for _ in leaves(before)]
            self.assertEqual(turned(grown(before, trees), script), grown(after, trees))
            # Without any one of its lowest nodes the tree is too small.
            for at in [k for k in range(len(before)) if before.startswith("(..)", k)]:
                with self.assertRaises(CannotTurn):
                    turned(before[:at] + "." + before[at + 4:], script)


class Opposites(unittest.TestCase):
    """[22]"""

    def test_steps_backwards_with_the_other_word(self):
        self.assertEqual(opposite([]), [])
        self.assertEqual(opposite([("left", "lr"), ("right", ""), ("right", "r")]),
                         [("left", "r"), ("left", ""), ("right", "lr")])

    def test_it_undoes_and_is_undone(self):
        for script in SHORT:
            self.assertEqual(opposite(opposite(script)), script)
            self.assertEqual(pair_of(opposite(script)), pair_of(script)[::-1])


class Lowered(unittest.TestCase):
    """[22]"""

    def test_the_address_in_front(self):
        self.assertEqual(lowered([("right", "l"), ("left", "")], "rl"), [("right", "rll"), ("left", "rl")])
        self.assertEqual(lowered([("right", "l")], ""), [("right", "l")])
        self.assertEqual(lowered([], "lrl"), [])

    def test_it_turns_the_part_alone(self):
        for tree, script in itertools.product(oracle.texts(3), SHORT[:60]):
            result = oracle.run(oracle.read(tree), script)
            if not isinstance(result, int):
                self.assertEqual(turned(f"((..)({tree}.))", lowered(script, "rl")), f"((..)({oracle.text(result)}.))")

    def test_wrong_addresses(self):
        for steps in ([], [("right", "")]):
            for value in oracle.WRONG + [[], ".", "l l", "\n", ("l",), ["r"]]:
                with self.subTest(value):
                    with self.assertRaises(InvalidAddress) as caught:
                        lowered(steps, value)
                    self.assertIs(caught.exception.value, value)


class Texts(unittest.TestCase):
    """[22]"""

    def test_texts(self):
        self.assertEqual(text_of([]), "")
        self.assertEqual(text_of([("right", "")]), ">")
        self.assertEqual(text_of([("left", "lr"), ("right", ""), ("right", "r")]), "<lr > >r")

    def test_reading(self):
        self.assertEqual(read_script(""), [])
        self.assertEqual(read_script("> >"), [("right", ""), ("right", "")])
        self.assertEqual(read_script("<lr > >r"), [("left", "lr"), ("right", ""), ("right", "r")])

    def test_the_text_of_each_script_gives_the_script(self):
        for script in SHORT + list(some_scripts(20, 60, 120, 5)):
            self.assertEqual(read_script(text_of(script)), script)

    def test_each_string_is_a_text_that_gives_itself_or_no_text(self):
        known = {text_of(script) for script in SHORT}
        for many in range(6):
            for signs in itertools.product("<>lr ", repeat=many):
                value = "".join(signs)
                try:
                    script = read_script(value)
                except InvalidScript as error:
                    self.assertIs(error.value, value)
                    self.assertNotIn(value, known)
                else:
                    self.assertEqual(text_of(script), value)

    def test_values_that_are_no_texts(self):
        wrong = oracle.WRONG + [
            " ", "  ", "> ", " >", ">  <", ">\n", ">\t<", "\n", "l", "lr", "<>", ">>", ">l<", ">x", "> l", "right",
            "=l", ">L", ">l,<r", [], [("right", "")], [">"], (">",), "\u00a0", ">\u00a0<", ">l\u2028<"]
        for value in wrong:
            with self.subTest(value):
                with self.assertRaises(InvalidScript) as caught:
                    read_script(value)
                self.assertIs(caught.exception.value, value)


class Results(unittest.TestCase):

    def test_kinds(self):
        script = [("left", "l"), ("right", "")]
        for steps in (opposite(script), lowered(script, "r"), read_script("<l >"), steps_of("((.(..)).)")):
            self.assertIs(type(steps), list)
            for step in steps:
                self.assertIs(type(step), tuple)
                self.assertEqual([type(item) for item in step], [str, str])
        self.assertIs(type(pair_of(script)), tuple)
        self.assertTrue(all([is_tree(tree) for tree in pair_of(script)]))


if __name__ == "__main__":
    unittest.main()
