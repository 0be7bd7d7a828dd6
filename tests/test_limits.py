"""Promise [3] for moves, arms and places: within seconds. A few are allowed to each group of calls; none needs one."""

import itertools
import random
import unittest
from fractions import Fraction

import oracle
from treeturns.arms import arm_script, counts, from_counts, normal, off_arm, shortest
from treeturns.moves import Move, alike, parting, unmoved, widest
from treeturns.places import after, carried, compare, drifts, fixed, span, value
from treeturns.trees import grown, leaves, size

STILL = Move(".", ".")
UP = Move.of([("right", "")])


def large_moves():
    """Moves of 140, 300 and 400 nodes, of trees by chance and of trees that lean."""
    chance = random.Random(3)
    for many in (140, 300, 400):
        trees = [oracle.leaning(many, side) for side in "lrz"] + [oracle.any_tree(many, chance) for _ in range(2)]
        for before, after_it in itertools.permutations(trees, 2):
            yield Move(before, after_it)


LARGE = list(large_moves())[::2]


class Large(unittest.TestCase):

    def test_moves(self):
        for move in LARGE:
            with oracle.within(5):
                self.assertEqual(move(move.before), move.after)
                self.assertEqual((move * ~move).before, move.before)
                self.assertTrue(alike(move * ~move, STILL))
                self.assertEqual(widest(move * ~move), STILL)
                self.assertTrue(move * ~move <= STILL)
                self.assertTrue(move <= widest(move))
                self.assertEqual(parting(move, STILL), (move.before, move.after, move.before))
                self.assertEqual(size(move.under("lr" * 60).before), size(move.before) + 120)
                self.assertEqual(move.times(0), STILL)
                self.assertEqual(move.times(-2), ~move * ~move)
                self.assertIsInstance(unmoved(move), list)
                trees = [["(..)", "."][k == 0 or k > 40] for k in range(size(move.before) + 1)]
                more = Move(grown(move.before, trees), grown(move.after, trees))
                self.assertTrue(more <= move and more < move and alike(more, move))

    def test_two_moves(self):
        for one, other in zip(LARGE, LARGE[3:] + LARGE[:3]):
            with oracle.within(5):
                both = one * other
                self.assertEqual(both(both.before), other(one(both.before)))
                if one.before == other.before:
                    self.assertEqual(parting(one, other), (one.before, one.after, other.after))
                self.assertEqual(compare(one, other), -compare(other, one))
                self.assertEqual(compare(~one * one, ~other * other), 0)

    def test_arms(self):
        for move in LARGE:
            with oracle.within(5):
                self.assertEqual(off_arm(move.before), sum(counts(move.before)))
                script = arm_script(move)
                wide = widest(move)
                self.assertEqual(len(script), off_arm(wide.before) + off_arm(wide.after))
                ups, downs = normal(move)
                self.assertEqual([sum(ups), sum(downs)], [off_arm(wide.before), off_arm(wide.after)])
                self.assertIsNone(shortest(move, ["", "lrlr", "rrrr"], 5))

    def test_arm_scripts_can_be_done(self):
        for move in LARGE[::5]:
            with oracle.within(10):
                self.assertTrue(move <= Move.of(arm_script(move)))

    def test_places(self):
        for move in LARGE:
            with oracle.within(5):
                for place in ((0, 1), (1, 1), (1, 3), (7 ** 50, 7 ** 50 + 1), (1, 2 ** 401)):
                    self.assertEqual(value(~move, value(move, place)), place)
                rows = fixed(move)
                self.assertEqual(len(drifts(move)), len(rows) - 1)
                for row in rows[:5]:
                    self.assertEqual([value(move, row[0]), value(move, row[1])], list(row))
                pairs = list(zip(leaves(widest(move).before), leaves(widest(move).after)))
                for source, target in pairs[::40]:
                    self.assertEqual(carried(move, source), target)
                    low, high = [value(move, number) for number in span(source)]
                    self.assertEqual((low, high), span(target))


class Counts(unittest.TestCase):
    """[31] and [52]: counts of any size."""

    def test_times(self):
        with oracle.within(5):
            for count in (10 ** 60, -10 ** 60):
                for move in LARGE[::9]:
                    same = Move(move.before, move.before)
                    self.assertEqual(same.times(count), same)
            self.assertEqual(UP.times(399).times(-1), UP.times(-399))
            self.assertEqual(UP.under("lr" * 60).times(270), UP.times(270).under("lr" * 60))

    def test_after(self):
        chance = random.Random(4)
        for move in LARGE[::3]:
            with oracle.within(10):
                at = [value(move, number) for number in ((1, 3), (2, 5))]
                self.assertEqual(len(at), 2)
                for source in leaves(widest(move).before)[::60]:
                    for address in (source, source + "lr" * 30, "".join(chance.choices("lr", k=120))):
                        for times in (10 ** 30, -10 ** 30, 700, -700):
                            self.check(move, address, times)

    def check(self, move, address, times):
        """The pieces are addresses that are not too long, and one time back and forth leads to the same place."""
        try:
            front, loop, count, rest = after(move, address, times)
        except ValueError:
            return
        self.assertTrue(set(front + loop + rest) <= {"l", "r"})
        self.assertLessEqual(max(len(front), len(loop), len(rest)), 100000)
        self.assertGreaterEqual(count, 0)
        if count * len(loop) < 10 ** 6:
            back = after(move, front + loop * count + rest, -times)
            self.assertEqual(back[0] + back[1] * back[2] + back[3], address)

    def test_after_a_long_way(self):
        # A part comes to many leaves, each with other neighbours, before it comes to where the loop is.
        chance = random.Random(5)
        top = oracle.leaning(60, "r")
        trees = [grown(top, [oracle.any_tree(2, chance) for _ in range(61)]) for _ in range(2)]
        move = ~Move(*trees) * UP * Move(*trees)
        wide = widest(move)
        self.assertGreater(size(wide.before), 140)
        pairs = list(zip(leaves(wide.before), leaves(wide.after)))
        for address in [place + "lrr" for place in leaves(move.before)[::20]] + ["l" * 120, "l" * 119 + "r"]:
            way = [address]
            while len(way) <= 200 and way[-1]:
                found = [target + way[-1][len(source):] for source, target in pairs if way[-1].startswith(source)]
                way += found or [None]
            for times in range(0, len(way) - 1, 20):
                with oracle.within(5):
                    front, loop, count, rest = after(move, address, times)
                self.assertEqual(front + loop * count + rest, way[times])

    def test_long_addresses_that_were_returned(self):
        with oracle.within(5):
            front, loop, count, rest = after(UP, "l" * 99999 + "r", 99998)
            self.assertEqual(front + loop * count + rest, "lr")
            front, loop, count, rest = after(UP, "l" * 100000, 0)
            self.assertEqual(front + loop * count + rest, "l" * 100000)
            self.assertEqual(carried(UP, "l" * 100000), "l" * 99999)
            self.assertEqual(span("l" * 1000), ((0, 1), (1, 2 ** 1000)))


class Lists(unittest.TestCase):

    def test_from_counts_of_five_hundred_items(self):
        with oracle.within(5):
            ups, downs = [0] * 440 + [1] * 60, [1] * 60
            self.assertEqual(normal(from_counts(ups, downs)), (ups, downs))
            self.assertEqual(normal(from_counts([0] * 499 + [60], [])), ([0] * 499 + [60], []))
            self.assertEqual(from_counts([0] * 499 + [60], [0] * 499 + [60]), STILL)

    def test_shortest(self):
        for places in (["", "l", "r"], ["l", "lr", "lrl"], ["llll", "rrrr", ""]):
            steps = [("right", places[2]), ("left", places[1]), ("left", places[0]), ("right", places[2]),
                     ("right", places[1])]
            with oracle.within(5):
                found = shortest(Move.of(steps), places, 5)
                self.assertTrue(alike(Move.of(found), Move.of(steps)))
                self.assertIsNone(shortest(UP.times(300), places, 5))

    def test_lines_that_cross_hundreds_of_times(self):
        # At each second leaf of a leaning tree hangs a move of its own, so that every gap has its drift.
        top = oracle.leaning(190, "r")
        trees = [["((..).)", "."][k % 2] for k in range(191)]
        others = [["(.(..))", "."][k % 2] for k in range(191)]
        move = Move(grown(top, trees), grown(top, others))
        with oracle.within(5):
            rows = fixed(move)
            self.assertEqual(drifts(move), ["up"] * 96)
            numbers = [Fraction(*number) for row in rows for number in row]
            self.assertEqual(numbers, sorted(numbers))


if __name__ == "__main__":
    unittest.main()
