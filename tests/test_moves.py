"""Promises [30] to [34]."""

import itertools
import unittest

import oracle
from treeturns.errors import CannotMove, InvalidAddress, InvalidMove, InvalidNumber, InvalidScript, InvalidTree
from treeturns.moves import Move, alike, parting, unmoved, widest
from treeturns.scripts import pair_of, turned
from treeturns.trees import grown, joined, leaves, part, replaced, size

STILL = Move(".", ".")
UP = Move.of([("right", "")])
TREES = oracle.texts(6)
FEW = oracle.moves(2)
SMALL = oracle.moves(3)
STEPS = [(word, address) for word in ("right", "left") for address in oracle.addresses(2)]
SCRIPTED = [Move.of(list(steps)) for steps in itertools.product(STEPS[::3], repeat=2)]
SOME = [move for move in SCRIPTED + oracle.any_moves(6, 6, 30) if size(move.before) <= 6]
# (a, b) with b the result of a, for each move and all trees of up to 6 nodes on which it can be done.
DONE = {}


def done(move):
    """What the move makes of each tree of up to 6 nodes on which it can be done, by the oracle."""
    key = (move.before, move.after)
    if key not in DONE:
        results = [(tree, oracle.done(move, tree)) for tree in TREES]
        DONE[key] = {tree: result for tree, result in results if result is not None}
    return DONE[key]


class Example(unittest.TestCase):

    def test_as_it_stands(self):
        up, still = Move.of([("right", "")]), Move(".", ".")
        self.assertEqual(
            [(up * up).before, up * ~up == still, alike(up * ~up, still), up * ~up <= still, parting(up, up * up),
             unmoved(up.under("l")), up.times(-2)("(.(.(..)))"), widest(up * ~up) == still],
            ['(((..).).)', False, True, True, ('(((..).).)', '((..)(..))', '(.(.(..)))'), ['r'], '(((..).).)', True])


class Moves(unittest.TestCase):
    """[30]"""

    def test_the_two_trees(self):
        for many in range(5):
            for before, after in itertools.product([oracle.text(tree) for tree in oracle.shapes(many)], repeat=2):
                move = Move(before, after)
                self.assertEqual([move.before, move.after], [before, after])
                self.assertEqual(repr(move), f"Move('{before}', '{after}')")
                self.assertEqual(eval(repr(move)), move)

    def test_repr_as_it_stands(self):
        self.assertEqual(repr(UP), "Move('((..).)', '(.(..))')")
        self.assertEqual(repr(STILL), "Move('.', '.')")

    def test_the_trees_are_properties(self):
        self.assertIsInstance(Move.before, property)
        self.assertIsInstance(Move.after, property)
        move = Move("((..).)", "(.(..))")
        for name in ("before", "after"):
            with self.assertRaises(AttributeError):
                setattr(move, name, ".")
        self.assertEqual(move, UP)

    def test_sizes_that_differ(self):
        for before, after in itertools.product(oracle.texts(4), repeat=2):
            if size(before) != size(after):
                with self.assertRaises(InvalidMove) as caught:
                    Move(before, after)
                self.assertEqual(caught.exception.value, (before, after))
                self.assertIs(caught.exception.value[0], before)
                self.assertIs(caught.exception.value[1], after)
                self.assertIs(type(caught.exception.value), tuple)

    def test_values_that_are_no_trees(self):
        for value in oracle.WRONG:
            for given in ((value, "."), (".", value), (value, [value]), ("(..)", value)):
                with self.assertRaises(InvalidTree) as caught:
                    Move(*given)
                self.assertIs(caught.exception.value, value)

    def test_of_is_the_pair_of_a_script(self):
        self.assertEqual(Move.of([]), STILL)
        for many in range(3):
            for steps in itertools.product(STEPS, repeat=many):
                move = Move.of(list(steps))
                self.assertIs(type(move), Move)
                self.assertEqual((move.before, move.after), pair_of(list(steps)))
        for steps in itertools.product(STEPS[::2], repeat=3):
            move = Move.of(list(steps))
            self.assertEqual(turned(move.before, list(steps)), move.after)

    def test_of_other_values(self):
        for value in oracle.WRONG + [(), "", ("right", ""), [("right",)]]:
            with self.assertRaises(InvalidScript) as caught:
                Move.of(value)
            self.assertIs(caught.exception.value, value)

    def test_the_result_on_each_tree(self):
        for move in SMALL + SOME:
            for tree in TREES:
                expected = done(move).get(tree)
                self.assertIs(move.can(tree), expected is not None)
                if expected is None:
                    with self.assertRaises(CannotMove) as caught:
                        move(tree)
                    self.assertIs(caught.exception.value, tree)
                else:
                    self.assertEqual(move(tree), expected)

    def test_what_hangs_below_is_carried(self):
        self.assertEqual(UP("(((..).)(.(..)))"), "((..)(.(.(..))))")
        self.assertEqual(STILL("((..).)"), "((..).)")
        self.assertEqual(Move("((.(..)).)", "((..)(..))")("((.((..)(..)))(..))"), "((.(..))((..)(..)))")

    def test_on_other_values(self):
        for value in oracle.WRONG + ["", "l", [], ["."]]:
            for call in (UP, UP.can, STILL, STILL.can):
                with self.assertRaises(InvalidTree) as caught:
                    call(value)
                self.assertIs(caught.exception.value, value)

    def test_equal_to_a_move_of_the_same_trees(self):
        for one, other in itertools.product(SMALL, repeat=2):
            same = one.before == other.before and one.after == other.after
            self.assertIs(one == other, same)
            self.assertIs(one != other, not same)
            self.assertIs(one == Move(other.before, other.after), same)

    def test_equal_to_no_other_object(self):
        class Like:
            before, after = UP.before, UP.after
        for value in oracle.NO_MOVES + [Like(), Move, UP.before, (UP.before, UP.after), [UP], repr(UP)]:
            for move in (UP, STILL):
                self.assertIs(move == value, False)
                self.assertIs(value == move, False)
                self.assertIs(move != value, True)


class Products(unittest.TestCase):
    """[31]"""

    def test_first_the_one_then_the_other(self):
        pairs = list(itertools.product(SMALL[::2], repeat=2)) + list(itertools.product(SOME[::3], SMALL[::5]))
        for one, other in pairs:
            both = {tree: done(other)[result] for tree, result in done(one).items() if result in done(other)}
            move = one * other
            self.assertIs(type(move), Move)
            self.assertEqual(done(move), both)
            for tree, result in both.items():
                self.assertEqual(move(tree), result)

    def test_its_first_tree_is_the_least_one(self):
        for one, other in itertools.product(FEW, SMALL):
            both = [tree for tree, result in done(one).items() if result in done(other)]
            least = min([size(tree) for tree in both])
            self.assertEqual([(one * other).before], [tree for tree in both if size(tree) == least])

    def test_products_as_they_stand(self):
        self.assertEqual(UP * UP, Move("(((..).).)", "(.(.(..)))"))
        self.assertEqual(UP * ~UP, Move("((..).)", "((..).)"))
        self.assertEqual(~UP * UP, Move("(.(..))", "(.(..))"))
        self.assertEqual([UP * STILL, STILL * UP], [UP, UP])
        self.assertEqual(Move.of([("left", "l"), ("right", "")]), Move.of([("left", "l")]) * UP)

    def test_in_any_grouping(self):
        for one, other, third in itertools.product(SOME[::2], SOME[::3], SMALL[::4]):
            self.assertEqual((one * other) * third, one * (other * third))

    def test_the_two_moves_are_unchanged(self):
        for one, other in itertools.product(SMALL[::3], repeat=2):
            kept = [repr(one), repr(other)]
            one * other
            ~one
            self.assertEqual([repr(one), repr(other)], kept)

    def test_what_undoes(self):
        for move in SMALL + SOME:
            undo = ~move
            self.assertEqual([undo.before, undo.after], [move.after, move.before])
            self.assertEqual(~undo, move)
            for tree in TREES:
                self.assertIs(undo.can(tree), tree in done(move).values())
            for tree, result in done(move).items():
                self.assertEqual(undo(result), tree)


class Times(unittest.TestCase):
    """[31]"""

    def test_one_after_another(self):
        for move in SMALL + SOME:
            forth, back = STILL, STILL
            for count in range(8):
                self.assertEqual(move.times(count), forth)
                self.assertEqual(move.times(-count), back)
                forth, back = forth * move, back * ~move

    def test_not_at_all(self):
        for move in SMALL:
            self.assertEqual(move.times(0), STILL)

    def test_hundreds_of_times(self):
        for count in (1, 2, 3, 63, 64, 65, 100, 255, 256, 399):
            with oracle.within(5):
                self.assertEqual(UP.times(count), Move(oracle.leaning(count + 1, "l"), oracle.leaning(count + 1, "r")))
                self.assertEqual(UP.times(-count), ~UP.times(count))

    def test_any_number_of_times(self):
        chance_trees = [move.before for move in oracle.any_moves(3, 400, 31)]
        for tree in [".", "(..)", "((..)(.(..)))", oracle.leaning(400, "z")] + chance_trees:
            move = Move(tree, tree)
            for count in (10 ** 60, -10 ** 60, 10 ** 60 + 1, 2 ** 200 - 1, -1, 10 ** 800):
                with oracle.within(5):
                    self.assertEqual(move.times(count), move)
        self.assertEqual((UP * ~UP).times(10 ** 60), Move("((..).)", "((..).)"))

    def test_wrong_numbers(self):
        for value in oracle.WRONG:
            if type(value) is not int:
                with self.assertRaises(InvalidNumber) as caught:
                    UP.times(value)
                self.assertIs(caught.exception.value, value)


class Order(unittest.TestCase):
    """[32]"""

    def test_by_the_trees_on_which_they_can_be_done(self):
        rows = SMALL + SOME[:10]
        for one, other in itertools.product(rows, repeat=2):
            most = all([done(other).get(tree) == result for tree, result in done(one).items()])
            least = all([done(one).get(tree) == result for tree, result in done(other).items()])
            same = one.before == other.before and one.after == other.after
            self.assertIs(one <= other, most)
            self.assertIs(one >= other, least)
            self.assertIs(one < other, most and not same)
            self.assertIs(one > other, least and not same)

    def test_what_comes_of_growing_is_less(self):
        for move in SMALL:
            trees = ["(..)"] + ["."] * size(move.before)
            more = Move(grown(move.before, trees), grown(move.after, trees))
            self.assertEqual([more <= move, more < move, more >= move, more > move], [True, True, False, False])
            self.assertEqual([move <= more, move < more, move >= more, move > more], [False, False, True, True])
            self.assertEqual([move <= move, move < move, move >= move, move > move], [True, False, True, False])

    def test_neither_at_most_the_other(self):
        for one, other in [(UP, ~UP), (UP, STILL), (UP, UP * UP), (UP.under("l"), UP.under("r"))]:
            self.assertEqual([one <= other, one < other, one >= other, one > other], [False] * 4)


class Alike(unittest.TestCase):
    """[33]"""

    def test_the_same_on_every_tree_on_which_both_can_be_done(self):
        for one, other in itertools.product(SMALL, repeat=2):
            both = [tree for tree in done(one) if tree in done(other)]
            same = all([done(one)[tree] == done(other)[tree] for tree in both])
            self.assertIs(alike(one, other), same)
            if same:
                self.assertIsNone(parting(one, other))
            else:
                least = min([size(tree) for tree in both])
                expected = [(tree, done(one)[tree], done(other)[tree]) for tree in both if size(tree) == least]
                self.assertEqual([parting(one, other)], expected)
                self.assertIs(type(parting(one, other)), tuple)

    def test_widest_is_the_greatest_of_those_that_are_alike(self):
        for move in SMALL:
            wide = widest(move)
            self.assertIs(type(wide), Move)
            self.assertTrue(alike(move, wide))
            for other in SMALL:
                self.assertIs(alike(move, other), other <= wide)
                self.assertIs(alike(move, other), widest(other) == wide)

    def test_widest_comes_of_taking_off_leaves(self):
        def taken(tree, at):
            start = tree.replace("(", "").replace(")", "")[:at]
            ends = [k for k in range(len(tree)) if tree.startswith("(..)", k) and tree[:k].count(".") == len(start)]
            return tree[:ends[0]] + "." + tree[ends[0] + 4:] if ends else None
        for move in oracle.moves(4) + SOME + [one * ~one for one in SOME]:
            before, after = move.before, move.after
            at = 0
            while at < size(before):
                if taken(before, at) is None or taken(after, at) is None:
                    at += 1
                else:
                    before, after, at = taken(before, at), taken(after, at), 0
            self.assertEqual(widest(move), Move(before, after))
            self.assertEqual(widest(widest(move)), Move(before, after))

    def test_what_undoes_is_alike_to_standing_still(self):
        for move in SMALL + SOME:
            self.assertTrue(alike(move * ~move, STILL))
            self.assertTrue(move * ~move <= STILL)
            self.assertIs(move * ~move == STILL, move.before == ".")
            self.assertEqual(widest(move * ~move), STILL)
            self.assertIsNone(parting(~move * move, STILL))
            self.assertTrue(alike(move * UP * ~UP, move))

    def test_grown_moves_are_alike(self):
        for move in SMALL:
            trees = [["(..)", ".", "(.(..))"][k % 3] for k in range(size(move.before) + 1)]
            more = Move(grown(move.before, trees), grown(move.after, trees))
            self.assertTrue(alike(more, move))
            self.assertEqual(widest(more), widest(move))
            self.assertEqual(unmoved(more), unmoved(move))

    def test_parting_as_it_stands(self):
        self.assertEqual(parting(UP, STILL), ("((..).)", "(.(..))", "((..).)"))
        self.assertEqual(parting(UP.under("l"), UP.under("r")),
                         ("(((..).)((..).))", "((.(..))((..).))", "(((..).)(.(..)))"))

    def test_other_values(self):
        for value in oracle.NO_MOVES + [UP.before, (UP.before, UP.after), [("right", "")], Move]:
            for call, given in [(alike, (value, [value])), (alike, (value, UP)), (alike, (UP, value)),
                                (parting, (value, None)), (parting, (value, UP)), (parting, (UP, value)),
                                (widest, (value,)), (unmoved, (value,))]:
                with self.assertRaises(InvalidMove) as caught:
                    call(*given)
                self.assertIs(caught.exception.value, value)


class Under(unittest.TestCase):
    """[34]"""

    def test_on_the_part_at_an_address(self):
        for move in SMALL[::2] + [STILL, UP]:
            for address in oracle.addresses(2):
                low = move.under(address)
                self.assertIs(type(low), Move)
                for tree in TREES:
                    parts = dict(oracle.all_parts(oracle.read(tree)))
                    found = oracle.text(parts[address]) if address in parts else None
                    self.assertIs(low.can(tree), found in done(move))
                    if found in done(move):
                        self.assertEqual(low(tree), replaced(tree, address, done(move)[found]))

    def test_standing_still_under_an_address(self):
        self.assertEqual(STILL.under(""), STILL)
        self.assertEqual(STILL.under("l"), Move("(..)", "(..)"))
        self.assertEqual(STILL.under("rl"), Move("(.(..))", "(.(..))"))
        self.assertEqual(UP.under(""), UP)

    def test_a_script_under_an_address(self):
        for steps in itertools.product(STEPS[::2], repeat=2):
            for address in ("", "l", "rl", "lrr"):
                low = [(word, address + place) for word, place in steps]
                self.assertEqual(Move.of(list(steps)).under(address), Move.of(low))

    def test_deep_addresses(self):
        for address in ("l" * 120, "r" * 120, "lr" * 60, "lrr" * 40, "r" * 395):
            low = UP.under(address)
            self.assertEqual(size(low.before), len(address) + 2)
            self.assertEqual([part(low.before, address), part(low.after, address)], ["((..).)", "(.(..))"])
            self.assertEqual(replaced(low.before, address, "."), replaced(low.after, address, "."))
            self.assertEqual(low.under("l").before, UP.under("l" + address).before)
            self.assertEqual(len(unmoved(low)), len(address))

    def test_addresses_that_are_none(self):
        for value in oracle.WRONG + [[], ".", "l ", ("l",)]:
            for move in (UP, STILL):
                with self.assertRaises(InvalidAddress) as caught:
                    move.under(value)
                self.assertIs(caught.exception.value, value)

    def test_unmoved_parts_and_no_others_stay(self):
        for move in SMALL + SOME:
            found = unmoved(move)
            wide = widest(move)
            pairs = zip(leaves(wide.before), leaves(wide.after))
            self.assertEqual(found, [one for one, other in pairs if one == other])
            at = oracle.line(move)
            for address in oracle.addresses(4):
                start, end = oracle.stretch_of(address)
                places = [place for place in oracle.corners(move) if start < place < end] + [start, end]
                stays = all([at(place) == place for place in places + [(2 * start + end) / 3]])
                self.assertIs(any([address.startswith(one) for one in found]), stays)

    def test_unmoved_at_the_edges(self):
        self.assertEqual([unmoved(STILL), unmoved(UP), unmoved(UP * ~UP)], [[""], [], [""]])
        self.assertEqual(unmoved(UP.under("lr")), ["ll", "r"])
        self.assertEqual(unmoved(Move("((..)(..))", "((..)(..))")), [""])
        self.assertEqual(unmoved(UP.under("l") * UP.under("rr")), ["rl"])


class Joint(unittest.TestCase):

    def test_parting_starts_from_the_joined_tree(self):
        for one, other in itertools.product(SOME[::2], SOME[1::2]):
            found = parting(one, other)
            tree = joined(one.before, other.before)
            if found is None:
                self.assertEqual(one(tree), other(tree))
            else:
                self.assertEqual(found, (tree, one(tree), other(tree)))


if __name__ == "__main__":
    unittest.main()
