"""Promise [3] for all but trees and scripts: within seconds. A few are allowed to each group of calls; few need one."""

import itertools
import random
import unittest
from fractions import Fraction

import oracle
from treeturns.arms import arm_script, counts, from_counts, normal, off_arm, shortest
from treeturns.bush import Bush
from treeturns.errors import CannotTurn
from treeturns.heights import (balanced_change, change, change_nodes, fits, is_balanced, keeps, least_nodes, leans,
                               mends, spoiled, spoils)
from treeturns.library import Library
from treeturns.moves import Move, alike, parting, unmoved, widest
from treeturns.places import after, carried, compare, drifts, fixed, span, value
from treeturns.scripts import turned
from treeturns.trees import grown, leaves, part, size
from treeturns.ways import arm_way, count_ways, distance, farthest, shapes, way

STILL = Move(".", ".")
UP = Move.of([("right", "")])


def large_moves():
    """Moves of 140, 300 and 400 nodes, of trees by chance and of trees that lean."""
    chance = random.Random(3)
    for many in (140, 300, 400):
        trees = [oracle.leaning(many, side) for side in "lrz"] + [oracle.any_tree(many, chance) for _ in range(2)]
        for before, after_it in itertools.permutations(trees, 2):
            yield Move(before, after_it)


LARGE = list(large_moves())[::2]


class Large(unittest.TestCase):

    def test_moves(self):
        for move in LARGE:
            with oracle.within(5):
                self.assertEqual(move(move.before), move.after)
                self.assertEqual((move * ~move).before, move.before)
                self.assertTrue(alike(move * ~move, STILL))
                self.assertEqual(widest(move * ~move), STILL)
                self.assertTrue(move * ~move <= STILL)
                self.assertTrue(move <= widest(move))
                self.assertEqual(parting(move, STILL), (move.before, move.after, move.before))
                self.assertEqual(size(move.under("lr" * 60).before), size(move.before) + 120)
                self.assertEqual(move.times(0), STILL)
                self.assertEqual(move.times(-2), ~move * ~move)
                self.assertIsInstance(unmoved(move), list)
                trees = [["(..)", "."][k == 0 or k > 40] for k in range(size(move.before) + 1)]
                more = Move(grown(move.before, trees), grown(move.after, trees))
                self.assertTrue(more <= move and more < move and alike(more, move))

    def test_two_moves(self):
        for one, other in zip(LARGE, LARGE[3:] + LARGE[:3]):
            with oracle.within(5):
                both = one * other
                self.assertEqual(both(both.before), other(one(both.before)))
                if one.before == other.before:
                    self.assertEqual(parting(one, other), (one.before, one.after, other.after))
                self.assertEqual(compare(one, other), -compare(other, one))
                self.assertEqual(compare(~one * one, ~other * other), 0)

    def test_arms(self):
        for move in LARGE:
            with oracle.within(5):
                self.assertEqual(off_arm(move.before), sum(counts(move.before)))
                script = arm_script(move)
                wide = widest(move)
                self.assertEqual(len(script), off_arm(wide.before) + off_arm(wide.after))
                ups, downs = normal(move)
                self.assertEqual([sum(ups), sum(downs)], [off_arm(wide.before), off_arm(wide.after)])
                self.assertIsNone(shortest(move, ["", "lrlr", "rrrr"], 5))

    def test_arm_scripts_can_be_done(self):
        for move in LARGE[::5]:
            with oracle.within(10):
                self.assertTrue(move <= Move.of(arm_script(move)))

    def test_places(self):
        for move in LARGE:
            with oracle.within(5):
                for place in ((0, 1), (1, 1), (1, 3), (7 ** 50, 7 ** 50 + 1), (1, 2 ** 401)):
                    self.assertEqual(value(~move, value(move, place)), place)
                rows = fixed(move)
                self.assertEqual(len(drifts(move)), len(rows) - 1)
                for row in rows[:5]:
                    self.assertEqual([value(move, row[0]), value(move, row[1])], list(row))
                pairs = list(zip(leaves(widest(move).before), leaves(widest(move).after)))
                for source, target in pairs[::40]:
                    self.assertEqual(carried(move, source), target)
                    low, high = [value(move, number) for number in span(source)]
                    self.assertEqual((low, high), span(target))


class Counts(unittest.TestCase):
    """[31] and [52]: counts of any size."""

    def test_times(self):
        with oracle.within(5):
            for count in (10 ** 60, -10 ** 60):
                for move in LARGE[::9]:
                    same = Move(move.before, move.before)
                    self.assertEqual(same.times(count), same)
            self.assertEqual(UP.times(399).times(-1), UP.times(-399))
            self.assertEqual(UP.under("lr" * 60).times(270), UP.times(270).under("lr" * 60))

    def test_after(self):
        chance = random.Random(4)
        for move in LARGE[::3]:
            with oracle.within(10):
                at = [value(move, number) for number in ((1, 3), (2, 5))]
                self.assertEqual(len(at), 2)
                for source in leaves(widest(move).before)[::60]:
                    for address in (source, source + "lr" * 30, "".join(chance.choices("lr", k=120))):
                        for times in (10 ** 30, -10 ** 30, 700, -700):
                            self.check(move, address, times)

    def check(self, move, address, times):
        """The pieces are addresses that are not too long, and one time back and forth leads to the same place."""
        try:
            front, loop, count, rest = after(move, address, times)
        except ValueError:
            return
        self.assertTrue(set(front + loop + rest) <= {"l", "r"})
        self.assertLessEqual(max(len(front), len(loop), len(rest)), 100000)
        self.assertGreaterEqual(count, 0)
        if count * len(loop) < 10 ** 6:
            back = after(move, front + loop * count + rest, -times)
            self.assertEqual(back[0] + back[1] * back[2] + back[3], address)

    def test_after_a_long_way(self):
        # A part comes to many leaves, each with other neighbours, before it comes to where the loop is.
        chance = random.Random(5)
        top = oracle.leaning(60, "r")
        trees = [grown(top, [oracle.any_tree(2, chance) for _ in range(61)]) for _ in range(2)]
        move = ~Move(*trees) * UP * Move(*trees)
        wide = widest(move)
        self.assertGreater(size(wide.before), 140)
        pairs = list(zip(leaves(wide.before), leaves(wide.after)))
        for address in [place + "lrr" for place in leaves(move.before)[::20]] + ["l" * 120, "l" * 119 + "r"]:
            way = [address]
            while len(way) <= 200 and way[-1]:
                found = [target + way[-1][len(source):] for source, target in pairs if way[-1].startswith(source)]
                way += found or [None]
            for times in range(0, len(way) - 1, 20):
                with oracle.within(5):
                    front, loop, count, rest = after(move, address, times)
                self.assertEqual(front + loop * count + rest, way[times])

    def test_long_addresses_that_were_returned(self):
        with oracle.within(5):
            front, loop, count, rest = after(UP, "l" * 99999 + "r", 99998)
            self.assertEqual(front + loop * count + rest, "lr")
            front, loop, count, rest = after(UP, "l" * 100000, 0)
            self.assertEqual(front + loop * count + rest, "l" * 100000)
            self.assertEqual(carried(UP, "l" * 100000), "l" * 99999)
            self.assertEqual(span("l" * 1000), ((0, 1), (1, 2 ** 1000)))


class Lists(unittest.TestCase):

    def test_from_counts_of_five_hundred_items(self):
        with oracle.within(5):
            ups, downs = [0] * 440 + [1] * 60, [1] * 60
            self.assertEqual(normal(from_counts(ups, downs)), (ups, downs))
            self.assertEqual(normal(from_counts([0] * 499 + [60], [])), ([0] * 499 + [60], []))
            self.assertEqual(from_counts([0] * 499 + [60], [0] * 499 + [60]), STILL)

    def test_shortest(self):
        for places in (["", "l", "r"], ["l", "lr", "lrl"], ["llll", "rrrr", ""]):
            steps = [("right", places[2]), ("left", places[1]), ("left", places[0]), ("right", places[2]),
                     ("right", places[1])]
            with oracle.within(5):
                found = shortest(Move.of(steps), places, 5)
                self.assertTrue(alike(Move.of(found), Move.of(steps)))
                self.assertIsNone(shortest(UP.times(300), places, 5))

    def test_lines_that_cross_hundreds_of_times(self):
        # At each second leaf of a leaning tree hangs a move of its own, so that every gap has its drift.
        top = oracle.leaning(190, "r")
        trees = [["((..).)", "."][k % 2] for k in range(191)]
        others = [["(.(..))", "."][k % 2] for k in range(191)]
        move = Move(grown(top, trees), grown(top, others))
        with oracle.within(5):
            rows = fixed(move)
            self.assertEqual(drifts(move), ["up"] * 96)
            numbers = [Fraction(*number) for row in rows for number in row]
            self.assertEqual(numbers, sorted(numbers))


def trees_of(nodes, many, seed):
    """Trees that lean, and as many by chance."""
    chance = random.Random(seed)
    return [oracle.leaning(nodes, side) for side in "lrz"] + [oracle.any_tree(nodes, chance) for _ in range(many)]


class Heights(unittest.TestCase):
    """[60] to [66]"""

    def test_large_trees(self):
        for tree in trees_of(300, 3, 60) + trees_of(400, 3, 61):
            row = [k % 7 for k in range(tree.count("."))]
            with oracle.within(5):
                for slack in (0, 1, 400, 10 ** 30):
                    self.assertIs(is_balanced(tree, slack), fits(tree, [0] * len(row), slack))
                self.assertEqual(fits(tree, row, 3), all(-3 <= lean <= 3 for lean in leans(tree, row)))

    def test_least_nodes(self):
        with oracle.within(5):
            for slack in (0, 1, 2, 5, 999, 1000):
                low = 1000 - 1 - slack
                self.assertEqual(least_nodes(1000, slack),
                                 1 + least_nodes(999, slack) + (least_nodes(low, slack) if low > 0 else 0))

    def test_changes_of_sixty_nodes(self):
        for before, after_it in itertools.permutations(trees_of(60, 4, 62), 2):
            move = Move(before, after_it)
            with oracle.within(5):
                least, most = change(move)
                found = [change_nodes(move, amount) for amount in range(least - 1, most + 2)]
                self.assertEqual([found[0], found[-1]], [None, None])
                self.assertGreaterEqual(min(found[1:-1]), 60)
                self.assertEqual(change(~move), (-most, -least))

    def test_moves_of_ten_nodes(self):
        chance = random.Random(63)
        moves = [Move(*pair) for pair in itertools.permutations(trees_of(10, 4, 63), 2)]
        for before in trees_of(10, 5, 64):
            turns = [oracle.read(before)]
            for _ in range(3):
                turns.append(chance.choice(oracle.steps_from(turns[-1]))[1])
                moves.append(Move(before, oracle.text(turns[-1])))
        for move in moves:
            for slack in range(4):
                with oracle.within(5):
                    row = spoiled(move, slack)
                    self.assertIs(keeps(move, slack), row is None)
                    if row is not None:
                        self.assertTrue(fits(move.before, row, slack))
                        self.assertFalse(fits(move.after, row, slack))
                    least, most = balanced_change(move, slack)
                    self.assertTrue(change(move)[0] <= least <= most == change(move)[1])

    def test_spoils_of_all_trees_of_six_nodes(self):
        for number, tree in enumerate(shapes(6)):
            for slack in range(3):
                with oracle.within(5):
                    found = spoils(tree, number % 7, [1, -1][number % 2], slack)
                self.assertEqual(found, sorted(found))
                for row in found[::50]:
                    self.assertTrue(fits(tree, row, slack))
                    row[number % 7] += [1, -1][number % 2]
                    self.assertFalse(fits(tree, row, slack))

    def test_mends_of_six_nodes(self):
        chance = random.Random(66)
        # These rows can be mended by no script, but only the last one shows it.
        hopeless = [[0] * 7] * 59 + [[0, 0, 0, 0, 0, 0, 9]]
        for tree in shapes(6)[::7]:
            rows = [[chance.randrange(2) for _ in range(7)] for _ in range(60)]
            for slack, most in ((0, 6), (1, 6), (2, 6), (3, 4)):
                with oracle.within(5):
                    for given in (rows, rows[:1], [[0] * 7] * 60, hopeless):
                        for script in mends(tree, given, slack, most)[::20]:
                            result = turned(tree, script)
                            self.assertTrue(all(fits(result, row, slack) for row in given))

    def test_many_mends(self):
        # No leaf but the first one is high, so that the root must have this one alone as its left part.
        for tree in ("((((((..).).).).).)", "(.(.(.(.(.(..))))))", "((((.(.(..))).).).)"):
            with oracle.within(5):
                found = mends(tree, [[6, 0, 0, 0, 0, 0, 0]], 3, 6)
                self.assertEqual(found, sorted(found))


class Ways(unittest.TestCase):
    """[70] and [71]"""

    def test_the_farthest_trees_of_eight_nodes(self):
        for one, other, many in (("((((.((.((..).)).)).).).)", "(.(.(.(((.((..).)).).))))", 2010),
                                 ("((((.((.(..))(..))).).).)", "(.(.((.(((..)(..)).)).)))", 10796)):
            with oracle.within(5):
                self.assertEqual([distance(one, other), count_ways(one, other), count_ways(other, one)], [11, many, many])
                for start, end in ((one, other), (other, one)):
                    script = way(start, end)
                    self.assertEqual([len(script), turned(start, script)], [11, end])

    def test_shapes(self):
        with oracle.within(5):
            self.assertEqual([len(shapes(nodes)) for nodes in range(9)], [1, 1, 2, 5, 14, 42, 132, 429, 1430])

    def test_farthest_of_seven_nodes(self):
        with oracle.within(10):
            found = [farthest(tree) for tree in shapes(7)[::20]]
            self.assertEqual({most <= 9 for most, _ in found}, {True})

    def test_arm_ways_of_sixty_nodes(self):
        for one, other in itertools.permutations(trees_of(60, 4, 71), 2):
            with oracle.within(5):
                script = arm_way(one, other)
                self.assertEqual(turned(one, script), other)
                self.assertEqual({address.strip("r") for _, address in script}, {""})


class Changing(unittest.TestCase):
    """[80] and [90]"""

    def test_a_bush_of_four_hundred_nodes(self):
        for tree in trees_of(400, 2, 80):
            with oracle.within(5):
                bush = Bush(tree)
                self.assertEqual(len(bush), 400)
                places = leaves(tree)
                self.assertEqual([place in bush for place in places], [True] * 401)
                self.assertEqual([bush[place[:-1]] for place in places], [part(tree, place[:-1]) for place in places])
                bush *= Move(tree, oracle.leaning(400, "r"))
                for _ in range(20):
                    bush.do([("left", "r" * k) for k in range(0, 120, 2)])
                    bush.do([("right", "r" * k) for k in range(118, -1, -2)])
                self.assertEqual(bush.tree(), oracle.leaning(400, "r"))
                bush["r" * 120] = oracle.leaning(300, "z")
                with self.assertRaises(CannotTurn):
                    bush.do([("left", "")] * 59 + [("left", "l")])
                twin = bush.copy()
                for left in range(len(bush.log()), 0, -1):
                    self.assertEqual(len(bush.log()), left)
                    bush.back()
                self.assertEqual(bush.tree(), tree)
                self.assertEqual([len(twin), len(twin.log())], [420, 42])

    def test_a_library_of_forty_moves(self):
        names = [one + other for one in "abcde" for other in "abcdefgh"]
        moves = (LARGE + [~move for move in LARGE])[:40]
        library = Library()
        with oracle.within(10):
            for name, move in zip(names, moves):
                library.put(name, move)
            for _ in range(10):
                for name, move in zip(names, moves[1:] + moves[:1]):
                    library.change(name, move)
            self.assertEqual([len(library), library.names()], [40, names])
            for move in moves[:10]:
                self.assertEqual(library.alike_to(move), [name for name in names if alike(library.move(name), move)])
            twin = library.copy()
            while library.log():
                library.back()
            self.assertEqual([len(library), len(twin)], [0, 40])

    def test_together(self):
        library = Library()
        wide = Move(*trees_of(300, 0, 90)[:2])
        library.put("there", wide)
        library.put("back", ~wide)
        library.put("once", UP)
        with oracle.within(10):
            self.assertEqual(library.together(*["there", "back"] * 250), wide * ~wide)
            self.assertEqual(library.together(*["once"] * 300), UP.times(300))


if __name__ == "__main__":
    unittest.main()
