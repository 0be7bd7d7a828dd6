"""Promises [90] to [92]."""

import inspect
import itertools
import random
import unittest

import oracle
from treeturns.bush import Bush
from treeturns.errors import InvalidMove, InvalidName, NothingToUndo, TakenName, UnknownName
from treeturns.library import Library
from treeturns.moves import Move, alike

STILL = Move(".", ".")
UP = Move.of([("right", "")])
LOW = UP.under("l")
# Alike to it, but not equal.
MORE = Move("(((..).).)", "((..)(..))")
NO_NAMES = [wrong for wrong in oracle.WRONG if wrong not in ("x", "lrx")] + [
    "", "A", "Up", "uP", "a b", " a", "a ", "a1", "1", "a_b", "a-b", "abcdefghi", "a" * 100, "\u00e4", "a\n", "\u0430",
    b"up", ["up"], ("up",), ["u", "p"], {"up": UP}]


class Text(str):
    """A string of a derived class."""


def content(library):
    return {name: library.move(name) for name in library.names()}


def state(library):
    """All that a library tells, also what it tells after each undoing."""
    twin = library.copy()
    found = [(content(library), library.log())]
    while twin.log():
        twin.back()
        found.append((content(twin), twin.log()))
    return found


def filled():
    """A library that keeps two moves, and one that was replaced and one that was dropped."""
    library = Library()
    library.put("up", UP)
    library.put("gone", STILL)
    library.put("down", LOW)
    library.change("down", ~UP)
    library.drop("gone")
    library.put("low", LOW)
    return library


class Example(unittest.TestCase):

    def test_as_it_stands(self):
        library = Library()
        library.put("up", Move.of([("right", "")]))
        library.put("down", Move.of([("left", "")]))
        self.assertEqual(
            [library.names(), library.together("up", "down").before, library.alike_to(Move("((..).)", "(.(..))")),
             library.log()],
            [['down', 'up'], '((..).)', ['up'], [('put', 'up'), ('put', 'down')]])


class Interface(unittest.TestCase):
    """[1]"""

    def test_own_methods(self):
        names = """__init__ put drop change move together alike_to names back log copy __len__ __contains__
        __eq__""".split()
        self.assertTrue(set(names) <= set(vars(Library)))
        self.assertEqual([Library.__module__, Library.__bases__], ["treeturns.library", (object,)])

    def test_parameters(self):
        expected = {"put": ["name", "move"], "drop": ["name"], "change": ["name", "move"], "move": ["name"],
                    "together": ["names"], "alike_to": ["move"], "names": [], "back": [], "log": [], "copy": []}
        for name, parameters in expected.items():
            self.assertEqual(list(inspect.signature(getattr(Library(), name)).parameters), parameters)

    def test_by_name_in_another_order(self):
        library = Library()
        self.assertIsNone(library.put(move=UP, name="up"))
        self.assertIsNone(library.put("low", move=LOW))
        self.assertIsNone(library.change(move=STILL, name="up"))
        self.assertEqual([library.move(name="up"), library.alike_to(move=LOW)], [STILL, ["low"]])
        self.assertIsNone(library.drop(name="low"))
        self.assertIsNone(library.back())
        self.assertEqual(library.names(), ["low", "up"])


class Keeping(unittest.TestCase):
    """[90] and [91]"""

    def test_at_first_nothing(self):
        library = Library()
        self.assertEqual([library.names(), library.log(), len(library), library.alike_to(STILL)], [[], [], 0, []])
        self.assertEqual(library.together(), STILL)

    def test_names_of_one_to_eight_letters(self):
        library = Library()
        for name in ["a", "z", "abcdefgh", "ijklmnop", "qrstuvwx", "yz", "x"]:
            library.put(name, UP)
            self.assertIs(name in library, True)
        self.assertEqual(library.names(), ["a", "abcdefgh", "ijklmnop", "qrstuvwx", "x", "yz", "z"])

    def test_put_drop_and_change(self):
        library = Library()
        self.assertIsNone(library.put("up", UP))
        self.assertEqual(content(library), {"up": UP})
        self.assertIsNone(library.put("same", UP))
        self.assertEqual(content(library), {"up": UP, "same": UP})
        self.assertIsNone(library.change("up", LOW))
        self.assertEqual(content(library), {"up": LOW, "same": UP})
        self.assertIsNone(library.drop("same"))
        self.assertEqual(content(library), {"up": LOW})
        self.assertIsNone(library.put("same", STILL))
        self.assertEqual([content(library), len(library)], [{"up": LOW, "same": STILL}, 2])

    def test_forty_names(self):
        library = Library()
        names = ["".join(letters) for letters in itertools.product("abcdefg", repeat=2)][:40]
        moves = oracle.moves(4)[:40]
        for name, move in list(zip(names, moves))[::-1]:
            library.put(name, move)
        self.assertEqual([len(library), library.names()], [40, names])
        self.assertEqual([library.move(name) for name in names], moves)
        for _ in range(40):
            library.back()
        self.assertEqual(library, Library())

    def test_together(self):
        library = filled()
        moves = {"up": UP, "down": ~UP, "low": LOW}
        self.assertEqual(library.together(), Move(".", "."))
        for many in range(1, 4):
            for names in itertools.product(moves, repeat=many):
                expected = STILL
                for name in names:
                    expected = expected * moves[name]
                self.assertEqual(library.together(*names), expected)
        self.assertEqual(library.together("up"), UP)
        self.assertEqual(library.together("up", "down"), UP * ~UP)
        self.assertEqual(library.together(*["low"] * 20), LOW.times(20))

    def test_alike_to(self):
        library = Library()
        moves = {"wide": UP, "more": MORE, "same": Move("((..).)", "(.(..))"), "low": LOW, "still": STILL,
                 "calm": Move("((..).)", "((..).)"), "a": UP * UP * ~UP}
        for name, move in moves.items():
            library.put(name, move)
        for move in list(moves.values()) + [~UP, UP * LOW, ~UP * UP]:
            self.assertEqual(library.alike_to(move), sorted(name for name in moves if alike(moves[name], move)))
        self.assertEqual(library.alike_to(UP), ["a", "more", "same", "wide"])
        self.assertEqual(library.alike_to(~UP * UP), ["calm", "still"])
        self.assertEqual(library.alike_to(~UP), [])

    def test_in_with_any_value(self):
        library = filled()
        for value in oracle.WRONG + NO_NAMES + ["gone", "u", ["up"], Library(), library, Bush(".")]:
            self.assertIs(value in library, False)
            self.assertIs(value not in library, True)
        for name in ("up", "down", "low", Text("up")):
            self.assertIs(name in library, True)

    def test_lists_are_the_callers_own(self):
        library = filled()
        for call in (library.names, library.log, lambda: library.alike_to(UP)):
            first, kept = call(), call()
            self.assertIsNot(first, kept)
            first.append("mine")
            self.assertEqual(call(), kept)


class Errors(unittest.TestCase):
    """[90], [91] and [2]"""

    def refused(self, error, field, wrong, deed):
        """A deed raises an error, and changes nothing."""
        for library in (Library(), filled()):
            before = state(library)
            with self.assertRaises(error) as caught:
                deed(library)
            self.assertIs(getattr(caught.exception, field), wrong)
            self.assertEqual(state(library), before)

    def test_put(self):
        for wrong in NO_NAMES:
            for move in (UP, None, [wrong]):
                self.refused(InvalidName, "name", wrong, lambda library: library.put(wrong, move))
        for wrong in oracle.NO_MOVES + ["up", ("((..).)", "(.(..))")]:
            self.refused(InvalidMove, "value", wrong, lambda library: library.put("new", wrong))

    def test_put_a_taken_name(self):
        library = filled()
        before = state(library)
        for name in ("up", "down", "low", Text("up")):
            for move in (UP, STILL, None, "up"):
                with self.assertRaises(TakenName) as caught:
                    library.put(name, move)
                self.assertIs(caught.exception.name, name)
        self.assertEqual(state(library), before)

    def test_names_that_are_not_kept(self):
        for wrong in NO_NAMES + ["x", "gone", "u", "upp", None]:
            self.refused(UnknownName, "name", wrong, lambda library: library.drop(wrong))
            self.refused(UnknownName, "name", wrong, lambda library: library.move(wrong))
            self.refused(UnknownName, "name", wrong, lambda library: library.together(wrong))
            for move in (UP, None, [wrong]):
                self.refused(UnknownName, "name", wrong, lambda library: library.change(wrong, move))

    def test_together_tells_the_first_one(self):
        library = filled()
        before = state(library)
        for wrong in NO_NAMES + ["gone"]:
            for names in ((wrong, "up"), ("up", wrong), ("up", wrong, "gone", None), ("low", "up", "low", wrong, "x")):
                with self.assertRaises(UnknownName) as caught:
                    library.together(*names)
                self.assertIs(caught.exception.name, wrong)
        self.assertEqual(state(library), before)

    def test_no_move(self):
        library = filled()
        before = state(library)
        for wrong in oracle.NO_MOVES + ["up", Library(), Bush(".")]:
            with self.assertRaises(InvalidMove) as caught:
                library.change("up", wrong)
            self.assertIs(caught.exception.value, wrong)
            self.refused(InvalidMove, "value", wrong, lambda library: library.alike_to(wrong))
        self.assertEqual(state(library), before)

    def test_nothing_to_undo(self):
        for library in (Library(), filled()):
            while library.log():
                library.back()
            for _ in range(2):
                with self.assertRaises(NothingToUndo):
                    library.back()
            self.assertEqual(library, Library())


class Undoing(unittest.TestCase):
    """[92]"""

    def test_one_by_one(self):
        library = filled()
        steps = [("put", "up"), ("put", "gone"), ("put", "down"), ("change", "down"), ("drop", "gone"), ("put", "low")]
        contents = [{}, {"up": UP}, {"up": UP, "gone": STILL}, {"up": UP, "gone": STILL, "down": LOW},
                    {"up": UP, "gone": STILL, "down": ~UP}, {"up": UP, "down": ~UP}, {"up": UP, "down": ~UP, "low": LOW}]
        for many in range(6, 0, -1):
            self.assertEqual([library.log(), content(library)], [steps[:many], contents[many]])
            self.assertIsNone(library.back())
        self.assertEqual([library.log(), content(library)], [[], {}])
        with self.assertRaises(NothingToUndo):
            library.back()

    def test_a_change_that_changes_nothing(self):
        library = Library()
        library.put("up", UP)
        library.change("up", UP)
        library.change("up", Move("((..).)", "(.(..))"))
        self.assertEqual(library.log(), [("put", "up"), ("change", "up"), ("change", "up")])
        library.back()
        library.back()
        self.assertEqual([library.log(), library.move("up")], [[("put", "up")], UP])

    def test_only_successful_calls_count(self):
        library = filled()
        before = state(library)
        for call, error in ((lambda: library.put("up", UP), TakenName), (lambda: library.drop("gone"), UnknownName),
                            (lambda: library.change("up", None), InvalidMove), (lambda: library.put("", UP), InvalidName)):
            with self.assertRaises(error):
                call()
        library.move("up"), library.together("up"), library.alike_to(UP), library.names(), library.copy(), len(library)
        self.assertEqual(state(library), before)

    def test_many_steps_by_chance(self):
        chance = random.Random(92)
        moves = oracle.moves(2)
        for _ in range(20):
            library = Library()
            known = [({}, [])]
            for _ in range(40):
                kept, log = dict(known[-1][0]), list(known[-1][1])
                name = chance.choice(["a", "b", "abcdefgh"])
                kind = chance.choice(["back", "put", "drop", "change", "put"])
                move = chance.choice(moves)
                if kind == "back":
                    if len(known) > 1:
                        library.back()
                        known.pop()
                    else:
                        with self.assertRaises(NothingToUndo):
                            library.back()
                elif (name in kept) == (kind == "put"):
                    with self.assertRaises(TakenName if kind == "put" else UnknownName):
                        getattr(library, kind)(*[name, move][:1 if kind == "drop" else 2])
                else:
                    getattr(library, kind)(*[name, move][:1 if kind == "drop" else 2])
                    if kind == "drop":
                        del kept[name]
                    else:
                        kept[name] = move
                    known.append((kept, log + [(kind, name)]))
                self.assertEqual((content(library), library.log()), known[-1])
            self.assertEqual(state(library), known[::-1])


class Copies(unittest.TestCase):
    """[92]"""

    def test_the_same(self):
        library = filled()
        twin = library.copy()
        self.assertIs(type(twin), Library)
        self.assertIsNot(twin, library)
        self.assertEqual(twin, library)
        self.assertEqual(state(twin), state(library))

    def test_one_without_the_other(self):
        for first in (True, False):
            library = filled()
            twin = library.copy()
            one, other = (library, twin) if first else (twin, library)
            kept = state(other)
            one.back()
            one.change("up", STILL)
            one.drop("down")
            one.put("new", UP)
            self.assertEqual(state(other), kept)
            self.assertNotEqual(one, other)
            kept = state(one)
            other.drop("up")
            for _ in range(4):
                other.back()
            other.put("new", LOW)
            self.assertEqual(state(one), kept)
            while other.log():
                other.back()
            with self.assertRaises(NothingToUndo):
                other.back()
            self.assertEqual(state(one), kept)
            self.assertEqual(content(one), {"up": STILL, "new": UP})


class Equality(unittest.TestCase):
    """[91]"""

    def test_libraries(self):
        contents = [{}, {"a": UP}, {"b": UP}, {"a": LOW}, {"a": UP, "b": LOW}, {"a": LOW, "b": UP}, {"a": UP, "b": UP}]
        for one, other in itertools.product(contents, repeat=2):
            first, second = Library(), Library()
            for name, move in one.items():
                first.put(name, move)
            for name, move in list(other.items())[::-1]:
                second.put(name, Move(move.before, move.after))
            self.assertIs(first == second, one == other)
            self.assertIs(first != second, one != other)

    def test_alike_is_not_equal(self):
        one, other = Library(), Library()
        one.put("a", UP)
        other.put("a", MORE)
        self.assertIs(one == other, False)

    def test_the_steps_do_not_count(self):
        library, other = filled(), Library()
        for name, move in (("low", LOW), ("down", ~UP), ("up", UP)):
            other.put(name, move)
        self.assertIs(library == other, True)
        library.back()
        self.assertIs(library == other, False)

    def test_other_objects(self):
        class Like:
            _moves = {}
        for library in (Library(), filled()):
            for value in oracle.WRONG + [Like(), Bush("."), Library, [library], content(library), library.names(), {}]:
                self.assertIs(library == value, False)
                self.assertIs(value == library, False)
                self.assertIs(library != value, True)


class Plain(unittest.TestCase):
    """[2]"""

    def test_what_is_returned_is_plain(self):
        class Other(Move):
            pass
        library = Library()
        library.put(Text("up"), Other("((..).)", "(.(..))"))
        library.put("low", LOW)
        library.change(Text("low"), Other("(..)", "(..)"))
        library.put(Text("gone"), UP)
        library.drop(Text("gone"))
        found = library.names() + library.alike_to(UP) + [word for step in library.log() for word in step]
        self.assertEqual({type(item) for item in found}, {str})
        self.assertEqual({type(move) for move in content(library).values()}, {Move})
        self.assertEqual({type(step) for step in library.log()}, {tuple})
        self.assertIs(type(library.together(Text("up"))), Move)


if __name__ == "__main__":
    unittest.main()
