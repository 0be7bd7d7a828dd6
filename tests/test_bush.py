"""Promises [80] and [81]."""

import random
import unittest

import oracle
from treeturns.bush import Bush
from treeturns.errors import (CannotMove, CannotTurn, InvalidAddress, InvalidMove, InvalidScript, InvalidTree,
                              NothingToUndo)
from treeturns.library import Library
from treeturns.moves import Move
from treeturns.scripts import steps_of, text_of
from treeturns.trees import leaves, nodes, part, replaced, size

STILL = Move(".", ".")
UP = Move.of([("right", "")])


class Text(str):
    """A string of a derived class."""


def state(bush):
    """All that a bush tells, also what it tells after each undoing."""
    twin = bush.copy()
    found = [(bush.tree(), bush.log())]
    while twin.log():
        twin.back()
        found.append((twin.tree(), twin.log()))
    return found


def changed():
    """A bush with a deed of each kind, each of which changed it."""
    bush = Bush("((..).)")
    bush.do([("right", "")])
    bush["rl"] = "(..)"
    bush *= ~UP
    return bush


class Example(unittest.TestCase):

    def test_as_it_stands(self):
        bush = Bush("((..).)")
        bush.do([("right", "")])
        self.assertEqual(
            [bush.tree(), bush["r"], len(bush), "rl" in bush, bush.log(), bush == Bush("(.(..))")],
            ['(.(..))', '(..)', 2, True, [('script', '>')], True])


class Interface(unittest.TestCase):
    """[1]"""

    def test_own_methods(self):
        names = """__init__ tree __getitem__ __setitem__ __imul__ do back log copy __len__ __contains__ __eq__""".split()
        self.assertTrue(set(names) <= set(vars(Bush)))
        self.assertEqual([Bush.__module__, Bush.__bases__], ["treeturns.bush", (object,)])

    def test_by_position_and_by_name(self):
        bush = Bush(tree="((..).)")
        self.assertEqual(bush, Bush("((..).)"))
        self.assertIsNone(bush.do(steps=[("right", "")]))
        self.assertIsNone(bush.do([("left", "")]))
        self.assertEqual(bush.log(), [("script", ">"), ("script", "<")])
        self.assertIsNone(bush.back())
        self.assertEqual(bush.tree(), "(.(..))")


class Parts(unittest.TestCase):
    """[80]"""

    def test_the_tree(self):
        for tree in oracle.texts(5):
            bush = Bush(tree)
            self.assertEqual(bush.tree(), tree)
            self.assertEqual(len(bush), size(tree))
            for address in leaves(tree) + nodes(tree):
                self.assertEqual(bush[address], part(tree, address))
                self.assertIs(address in bush, True)
                self.assertIs(address not in bush, False)
            known = leaves(tree) + nodes(tree)
            for address in oracle.addresses(4):
                self.assertIs(address in bush, address in known)

    def test_assignments(self):
        for tree in oracle.texts(3):
            for address in leaves(tree) + nodes(tree):
                for other in oracle.texts(2):
                    bush = Bush(tree)
                    bush[address] = other
                    self.assertEqual(bush.tree(), replaced(tree, address, other))
                    self.assertEqual(bush.log(), [("put", address, other)])
                    bush.back()
                    self.assertEqual(bush, Bush(tree))

    def test_moves(self):
        for move in oracle.moves(3)[::3]:
            for tree in oracle.texts(4):
                bush = same = Bush(tree)
                if move.can(tree):
                    bush *= move
                    self.assertIs(bush, same)
                    self.assertEqual(bush.tree(), move(tree))
                    self.assertEqual(bush.log(), [("move", move.before, move.after)])
                    bush.back()
                else:
                    with self.assertRaises(CannotMove) as caught:
                        bush *= move
                    self.assertEqual(caught.exception.value, tree)
                    self.assertEqual(bush.log(), [])
                self.assertEqual(bush.tree(), tree)

    def test_a_move_in_a_list_or_an_attribute(self):
        rows = [Bush("((..).)")]
        rows[0] *= UP
        rows[0] *= ~UP
        self.assertEqual([rows[0].tree(), len(rows[0].log())], ["((..).)", 2])

    def test_scripts(self):
        for tree in oracle.texts(4):
            for step in steps_of(tree):
                bush = Bush(tree)
                self.assertIsNone(bush.do([step]))
                expected = oracle.text(oracle.run(oracle.read(tree), [step]))
                self.assertEqual([bush.tree(), bush.log()], [expected, [("script", text_of([step]))]])
                for again in steps_of(expected):
                    twice = Bush(tree)
                    twice.do([step, again])
                    self.assertEqual(twice.tree(), oracle.text(oracle.run(oracle.read(tree), [step, again])))
                    self.assertEqual(twice.log(), [("script", text_of([step, again]))])
                    twice.back()
                    self.assertEqual(twice.tree(), tree)

    def test_a_later_step_that_cannot_be_done(self):
        for place, steps in enumerate(([("left", "")], [("right", ""), ("right", "")],
                                       [("right", ""), ("left", ""), ("left", "lll"), ("right", "")])):
            bush = Bush("((..).)")
            bush.do([("right", ""), ("left", "")])
            before = state(bush)
            with self.assertRaises(CannotTurn) as caught:
                bush.do(steps)
            self.assertEqual(caught.exception.place, place)
            self.assertEqual(state(bush), before)

    def test_in_with_any_value(self):
        for bush in (Bush("."), Bush("((..).)")):
            for value in oracle.WRONG + [[], (), {}, "lll", "rl", [""], ("",), Bush("."), bush]:
                self.assertIs(value in bush, False)
            self.assertIs("" in bush, True)
        self.assertIs(Text("l") in Bush("((..).)"), True)

    def test_length(self):
        self.assertEqual([len(Bush(".")), len(Bush("(..)")), len(Bush(oracle.leaning(300, "z")))], [0, 1, 300])

    def test_it_is_not_iterated_over(self):
        with self.assertRaises(TypeError):
            list(Bush("((..).)"))


class Errors(unittest.TestCase):
    """[80] and [2]"""

    def test_no_tree(self):
        for wrong in oracle.WRONG + [Bush(".")]:
            with self.assertRaises(InvalidTree) as caught:
                Bush(wrong)
            self.assertIs(caught.exception.value, wrong)

    def refused(self, error, field, wrong, deed):
        """A deed raises an error, and changes nothing."""
        for bush in (Bush("((..).)"), changed()):
            before = state(bush)
            with self.assertRaises(error) as caught:
                deed(bush)
            self.assertIs(getattr(caught.exception, field), wrong)
            self.assertEqual(state(bush), before)

    def test_no_address(self):
        for wrong in oracle.WRONG + ["llll", "rrrrr", slice(None)]:
            self.refused(InvalidAddress, "value", wrong, lambda bush: bush[wrong])
            for other in (".", "x", None, [wrong]):
                self.refused(InvalidAddress, "value", wrong, lambda bush: bush.__setitem__(wrong, other))

    def test_no_other_tree(self):
        for wrong in oracle.WRONG:
            for address in ("", "r"):
                self.refused(InvalidTree, "value", wrong, lambda bush: bush.__setitem__(address, wrong))

    def test_no_move(self):
        for wrong in oracle.NO_MOVES + ["((..).)", ("((..).)", "(.(..))"), [("right", "")], Bush(".")]:
            for bush in (Bush("((..).)"), changed()):
                same, before = bush, state(bush)
                with self.assertRaises(InvalidMove) as caught:
                    bush *= wrong
                self.assertIs(caught.exception.value, wrong)
                self.assertIs(bush, same)
                self.assertEqual(state(bush), before)

    def test_a_move_that_cannot_be_done(self):
        move = Move("(.(.(.(..))))", "(.(.((..).)))")
        for bush in (Bush("((..).)"), changed()):
            before = state(bush)
            with self.assertRaises(CannotMove) as caught:
                bush *= move
            self.assertEqual(caught.exception.value, bush.tree())
            self.assertEqual(state(bush), before)

    def test_no_script(self):
        for wrong in oracle.WRONG + [(), "", ">", [("right", "x")], [("right", ""), None]]:
            self.refused(InvalidScript, "value", wrong, lambda bush: bush.do(wrong))
        steps = [("right", "llll"), ("right", "x")]
        self.refused(InvalidScript, "value", steps, lambda bush: bush.do(steps))

    def test_nothing_to_undo(self):
        bush = changed()
        for tree in ("(.((..).))", "(.(..))", "((..).)"):
            self.assertIsNone(bush.back())
            self.assertEqual(bush.tree(), tree)
        for _ in range(2):
            with self.assertRaises(NothingToUndo):
                bush.back()
            self.assertEqual([bush.tree(), bush.log()], ["((..).)", []])
        with self.assertRaises(NothingToUndo):
            Bush(".").back()


class Undoing(unittest.TestCase):
    """[81]"""

    def test_the_log(self):
        bush = changed()
        self.assertEqual(bush.log(), [("script", ">"), ("put", "rl", "(..)"), ("move", "(.(..))", "((..).)")])
        self.assertEqual(bush.tree(), "((.(..)).)")
        bush.back()
        self.assertEqual(bush.log(), [("script", ">"), ("put", "rl", "(..)")])
        bush.do([("left", ""), ("right", "")])
        bush["r"] = "."
        self.assertEqual(bush.log(), [("script", ">"), ("put", "rl", "(..)"), ("script", "< >"), ("put", "r", ".")])
        self.assertEqual([type(deed) for deed in bush.log()], [tuple] * 4)

    def test_deeds_that_change_nothing(self):
        bush = Bush("((..).)")
        bush["l"] = "(..)"
        bush *= STILL
        bush *= Move("(..)", "(..)")
        bush.do([])
        bush.do([("right", ""), ("left", "")])
        deeds = [("put", "l", "(..)"), ("move", ".", "."), ("move", "(..)", "(..)"), ("script", ""), ("script", "> <")]
        for many in range(5, 0, -1):
            self.assertEqual(bush.log(), deeds[:many])
            self.assertIsNone(bush.back())
            self.assertEqual(bush.tree(), "((..).)")
        self.assertEqual(bush.log(), [])
        with self.assertRaises(NothingToUndo):
            bush.back()

    def test_many_deeds_by_chance(self):
        chance = random.Random(81)
        for _ in range(20):
            bush = Bush(oracle.any_tree(4, chance))
            known = [(bush.tree(), [])]
            for _ in range(40):
                tree, log = bush.tree(), list(bush.log())
                kind = chance.choice(["put", "move", "script", "back", "back" if len(known) > 3 else "put"])
                if kind == "put":
                    address, other = chance.choice(leaves(tree) + nodes(tree)), oracle.any_tree(chance.randrange(3), chance)
                    bush[address] = other
                    log.append(("put", address, other))
                elif kind == "move":
                    moves = [move for move in oracle.moves(2) if move.can(tree)]
                    move = chance.choice(moves)
                    bush *= move
                    log.append(("move", move.before, move.after))
                elif kind == "script":
                    steps = [chance.choice(steps_of(tree))] if steps_of(tree) else []
                    bush.do(steps)
                    log.append(("script", text_of(steps)))
                elif len(known) > 1:
                    bush.back()
                    known.pop()
                    self.assertEqual((bush.tree(), bush.log()), known[-1])
                    continue
                else:
                    with self.assertRaises(NothingToUndo):
                        bush.back()
                    continue
                known.append((bush.tree(), log))
                self.assertEqual(bush.log(), log)
            self.assertEqual(state(bush), known[::-1])

    def test_the_log_is_the_callers_own(self):
        bush = changed()
        log = bush.log()
        self.assertIsNot(log, bush.log())
        del log[:2]
        log.append("mine")
        self.assertEqual(len(bush.log()), 3)

    def test_changing_a_script_afterwards(self):
        bush = Bush("((..).)")
        steps = [("right", "")]
        bush.do(steps)
        steps[:] = [("left", "llll")]
        self.assertEqual([bush.tree(), bush.log()], ["(.(..))", [("script", ">")]])
        self.assertEqual(steps, [("left", "llll")])


class Copies(unittest.TestCase):
    """[81]"""

    def test_the_same(self):
        bush = changed()
        twin = bush.copy()
        self.assertIs(type(twin), Bush)
        self.assertIsNot(twin, bush)
        self.assertEqual(twin, bush)
        self.assertEqual(state(twin), state(bush))

    def test_one_without_the_other(self):
        for first in (True, False):
            bush = changed()
            twin = bush.copy()
            one, other = (bush, twin) if first else (twin, bush)
            kept = state(other)
            one.back()
            one["l"] = "((..)(..))"
            one.do([])
            self.assertEqual(state(other), kept)
            self.assertNotEqual(one, other)
            kept = state(one)
            other.back()
            other.back()
            other *= UP.times(0)
            self.assertEqual(state(one), kept)
            while other.log():
                other.back()
            with self.assertRaises(NothingToUndo):
                other.back()
            self.assertEqual(state(one), kept)
            self.assertEqual([one.tree(), other.tree()], ["(((..)(..))((..).))", "((..).)"])

    def test_a_copy_of_a_new_bush(self):
        twin = Bush("(..)").copy()
        with self.assertRaises(NothingToUndo):
            twin.back()
        self.assertEqual(twin.tree(), "(..)")


class Equality(unittest.TestCase):
    """[80]"""

    def test_bushes(self):
        for one in oracle.texts(3):
            for other in oracle.texts(3):
                self.assertIs(Bush(one) == Bush(other), one == other)
                self.assertIs(Bush(one) != Bush(other), one != other)

    def test_the_deeds_do_not_count(self):
        bush = changed()
        self.assertIs(bush == Bush("((.(..)).)"), True)
        bush.back()
        self.assertIs(bush == Bush("((.(..)).)"), False)
        self.assertIs(bush == Bush("(.((..).))"), True)

    def test_other_objects(self):
        class Like:
            _tree = "."
        for bush in (Bush("."), changed()):
            for value in oracle.WRONG + [".", bush.tree(), Like(), Library(), Bush, [bush], (bush,), bush.log()]:
                self.assertIs(bush == value, False)
                self.assertIs(value == bush, False)
                self.assertIs(bush != value, True)


class Plain(unittest.TestCase):
    """[2]"""

    def test_strings_of_derived_classes_come_back_plain(self):
        bush = Bush(Text("((..).)"))
        found = [bush.tree(), bush[Text("")], bush[Text("l")]]
        bush[Text("l")] = Text("(..)")
        bush[Text("")] = Text("((..).)")
        bush *= Move(Text("((..).)"), Text("(.(..))"))
        bush.do([(Text("left"), Text(""))])
        found += [bush.tree(), bush.copy().tree()] + [word for deed in bush.log() for word in deed]
        self.assertEqual({type(item) for item in found}, {str})


if __name__ == "__main__":
    unittest.main()
