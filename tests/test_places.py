"""Promises [50] to [54]."""

import itertools
import random
import unittest
from fractions import Fraction

import oracle
from treeturns.errors import InvalidAddress, InvalidMove, InvalidNumber, NotCarried
from treeturns.moves import Move, alike, widest
from treeturns.places import after, carried, compare, drifts, fixed, span, value
from treeturns.trees import leaves

STILL = Move(".", ".")
UP = Move.of([("right", "")])
MOST = 100000
SMALL = oracle.moves(3)
SOME = oracle.moves(4)[::7] + oracle.any_moves(12, 7, 50) + [one * ~one for one in oracle.any_moves(2, 6, 51)]
# It takes lr to lrlr, so it leaves 1/3 alone, which is the end of no stretch.
CROSSING = Move("(((..).)(..))", "((.((..).)).)")
NUMBERS = [Fraction(k, 24) for k in range(25)] + [Fraction(k, 7) for k in range(1, 7)]


def place_of(found):
    """The place that a tuple of `after` tells, which must have the form of one."""
    front, loop, count, rest = found
    assert type(found) is tuple
    assert [type(item) for item in found] == [str, str, int, str]
    assert set(front + loop + rest) <= set("lr") and count >= 0
    assert max(len(front), len(loop), len(rest)) <= MOST
    return front + loop * count + rest


def one_by_one(move, address, times):
    """Where a part is after so many times, or None if it is not carried at one of them."""
    pairs = list(zip(leaves(widest(move).before), leaves(widest(move).after)))
    if times < 0:
        pairs = [(target, source) for source, target in pairs]
    for _ in range(abs(times)):
        found = [target + address[len(source):] for source, target in pairs if address.startswith(source)]
        if not found:
            return None
        address = found[0]
    return address


class Example(unittest.TestCase):

    def test_as_it_stands(self):
        up = Move.of([("right", "")])
        front, loop, count, rest = after(up, "rl", 5)
        self.assertEqual(
            [span("rl"), carried(up, "llr"), front + loop * count + rest, value(up, (1, 2)), fixed(up), drifts(up),
             compare(up, Move(".", "."))],
            [((1, 2), (3, 4)), 'lr', 'rrrrrrl', (3, 4), [((0, 1), (0, 1)), ((1, 1), (1, 1))], ['up'], 1])


class Spans(unittest.TestCase):
    """[50]"""

    def test_halves_of_halves(self):
        for address in oracle.addresses(7):
            start, end = oracle.stretch_of(address)
            self.assertEqual(span(address), (oracle.plain(start), oracle.plain(end)))

    def test_at_the_edges(self):
        self.assertEqual([span(""), span("l"), span("r")], [((0, 1), (1, 1)), ((0, 1), (1, 2)), ((1, 2), (1, 1))])
        self.assertEqual(span("l" * 120), ((0, 1), (1, 2 ** 120)))
        self.assertEqual(span("r" * 120), ((2 ** 120 - 1, 2 ** 120), (1, 1)))
        self.assertEqual(span("r" + "l" * 119), ((1, 2), (2 ** 119 + 1, 2 ** 120)))

    def test_kinds(self):
        found = span("lr")
        self.assertEqual([type(item) for item in (found,) + found + found[0] + found[1]], [tuple] * 3 + [int] * 4)

    def test_values_that_are_no_addresses(self):
        for wrong in oracle.WRONG + [[], ".", "l ", ("l",)]:
            for call in (span, lambda wrong: carried(UP, wrong), lambda wrong: after(UP, wrong, 0),
                         lambda wrong: after(UP, wrong, None)):
                with self.assertRaises(InvalidAddress) as caught:
                    call(wrong)
                self.assertIs(caught.exception.value, wrong)


class Lines(unittest.TestCase):
    """[50]"""

    def test_each_stretch_evenly(self):
        for move in SMALL + SOME:
            at = oracle.line(move)
            for number in NUMBERS + oracle.corners(move):
                self.assertEqual(value(move, oracle.plain(number)), oracle.plain(at(number)))

    def test_alike_moves_and_only_these_have_the_same_line(self):
        for one, other in itertools.product(SMALL, repeat=2):
            numbers = [oracle.plain(number) for number in oracle.corners(one) + oracle.corners(other)]
            same = [value(one, number) for number in numbers] == [value(other, number) for number in numbers]
            self.assertIs(same, alike(one, other))

    def test_along_a_product_the_one_line_follows_the_other(self):
        for one, other in itertools.product(SOME[::2], SOME[::3]):
            for number in NUMBERS[::5]:
                place = oracle.plain(number)
                self.assertEqual(value(one * other, place), value(other, value(one, place)))
                self.assertEqual(value(~one, value(one, place)), place)

    def test_the_ends_and_fractions_with_many_digits(self):
        for move in SMALL + SOME:
            self.assertEqual([value(move, (0, 1)), value(move, (1, 1))], [(0, 1), (1, 1)])
        self.assertEqual(value(UP, (1, 2 ** 300)), (1, 2 ** 299))
        self.assertEqual(value(UP, (1, 3 ** 200)), (2, 3 ** 200))
        self.assertEqual(value(STILL, (10 ** 60, 10 ** 60 + 1)), (10 ** 60, 10 ** 60 + 1))

    def test_what_is_no_fraction_from_0_to_1(self):
        wrong = oracle.WRONG + [
            (0, 0), (1, 0), (0, 2), (2, 4), (0, -1), (-1, -2), (-1, 2), (3, 2), (2, 1), (2, 2), (1, -1), (1, -2),
            (6, 9), (True, 1), (0, True), (False, 1), (True, True), [0, 1], [1, 2], (1,), (1, 2, 3), (None, 1),
            ("1", "2"), (1, "2"), ((0, 1), (1, 1)), (1, (2,)), 0, 1, "1/2", (10 ** 60, 1), (10 ** 60, 2 * 10 ** 60),
            (UP, 1), (0, UP)]
        for item in wrong:
            for move in (UP, STILL):
                with self.assertRaises(InvalidNumber) as caught:
                    value(move, item)
                self.assertIs(caught.exception.value, item)

    def test_values_that_are_no_moves(self):
        for wrong in oracle.NO_MOVES + [UP.before, (UP.before, UP.after), [("right", "")]]:
            for call, given in [
                    (value, (wrong, (0, 1))), (value, (wrong, wrong)),
                    (carried, (wrong, "ll")), (carried, (wrong, [wrong])),
                    (after, (wrong, "ll", 1)), (after, (wrong, [wrong], [wrong])), (after, (wrong, "", 1)),
                    (fixed, (wrong,)), (drifts, (wrong,)), (compare, (wrong, UP)), (compare, (wrong, [wrong])),
                    (compare, (UP, wrong))]:
                with self.assertRaises(InvalidMove) as caught:
                    call(*given)
                self.assertIs(caught.exception.value, wrong)


class Carried(unittest.TestCase):
    """[51]"""

    def test_parts_that_are_carried_and_parts_that_are_not(self):
        for move in SMALL + SOME:
            for address in oracle.addresses(5):
                expected = one_by_one(move, address, 1)
                if expected is None:
                    with self.assertRaises(NotCarried) as caught:
                        carried(move, address)
                    self.assertIs(caught.exception.address, address)
                else:
                    self.assertEqual(carried(move, address), expected)

    def test_the_part_is_the_same_there(self):
        for move in SMALL[::3] + SOME[::3]:
            ends = leaves(move.before)
            for k, address in enumerate(ends):
                there = leaves(move.after)[k]
                self.assertEqual(carried(move, address + "lrr"), there + "lrr")

    def test_only_the_widest_move_counts(self):
        grown = Move("(((..).).)", "((.(..)).)") * Move("((.(..)).)", "(((..).).)")
        self.assertEqual([carried(grown, ""), carried(grown, "l")], ["", "l"])
        more = UP * UP * ~UP
        self.assertEqual(widest(more), UP)
        self.assertEqual(carried(more, "ll"), "l")

    def test_at_the_edges(self):
        self.assertEqual([carried(STILL, ""), carried(STILL, "lrl")], ["", "lrl"])
        for address in ("", "l"):
            with self.assertRaises(NotCarried) as caught:
                carried(UP, address)
            self.assertEqual(caught.exception.address, address)
        self.assertEqual(carried(UP, "r" * 120), "r" * 121)
        self.assertEqual(carried(UP, "l" * 120), "l" * 119)


class After(unittest.TestCase):
    """[52]"""

    def check(self, move, address, times):
        expected = one_by_one(move, address, times)
        if expected is None:
            with self.assertRaises(NotCarried) as caught:
                after(move, address, times)
            self.assertIs(caught.exception.address, address)
        else:
            self.assertEqual(place_of(after(move, address, times)), expected)

    def test_small_counts_against_carrying_one_by_one(self):
        for move in SMALL + SOME:
            for address in oracle.addresses(4):
                for times in (0, 1, 2, 3, 4, 9, -1, -2, -3, -8):
                    self.check(move, address, times)

    def test_long_addresses_against_carrying_one_by_one(self):
        chance = random.Random(52)
        for move in SOME:
            ends = leaves(widest(move).before) + leaves(widest(move).after)
            for _ in range(30):
                piece = chance.choice(ends)
                by_chance = "".join(chance.choices("lr", k=25))
                for address in (piece * 5 + "lr", by_chance, piece + "l" * 20, piece + "r" * 20):
                    for times in (1, 5, 17, 60, -1, -5, -17, -60):
                        self.check(move, address, times)

    def test_no_time_at_all(self):
        for move in SMALL:
            for address in ("", "l", "rlr" * 40):
                self.assertEqual(place_of(after(move, address, 0)), address)

    def test_the_part_loses_its_letters_before_it_is_not_carried(self):
        for letters in range(1, 12):
            address = "l" * letters
            for times in range(14):
                # `ll` becomes `l`, and `l` alone is not carried.
                if times < letters:
                    self.assertEqual(place_of(after(UP, address, times)), "l" * (letters - times))
                else:
                    with self.assertRaises(NotCarried):
                        after(UP, address, times)

    def test_often(self):
        # Each r at the end is a time: rl goes to rrl, and a part under ll comes to l before it comes to rl.
        for times in (10 ** 18, 10 ** 30, 10 ** 30 - 1):
            for address, early, rest in [("rl", 0, "l"), ("rlr", 0, "lr"), ("lrl", 1, "ll"), ("lllr", 3, "l")]:
                front, loop, count, last = after(UP, address, times)
                self.assertEqual(set(loop), {"r"})
                place_of((front, loop, 2, last))
                self.assertEqual(front.strip("r") + last.lstrip("r"), rest)
                rights = front.count("r") + len(loop) * count + len(last) - len(last.lstrip("r"))
                self.assertEqual(rights, times + 1 - early)

    def test_large_counts_go_on_from_small_ones(self):
        times = 10 ** 30
        for move in SMALL + SOME:
            for address in oracle.addresses(5)[::3]:
                for sign in (1, -1):
                    early, late = one_by_one(move, address, sign * 40), one_by_one(move, address, sign * 41)
                    if late is None:
                        with self.assertRaises(NotCarried):
                            after(move, address, sign * times)
                        continue
                    front, loop, count, rest = after(move, address, sign * times)
                    place_of((front, loop, 2, rest))
                    gained = (len(late) - len(early)) * (times - 40)
                    self.assertEqual(len(front) + len(loop) * count + len(rest), len(early) + gained)
                    # What 40 times lead to has some rounds of the same loop less.
                    less = gained // len(loop) if loop else 0
                    self.assertEqual(less * len(loop), gained)
                    self.assertEqual(front + loop * (count - less) + rest, early)

    def test_what_stays_may_be_written_out(self):
        for times in (10 ** 30, -10 ** 30):
            for move, address in [(STILL, "lr"), (UP.under("l"), "r"), (UP.under("l"), "rlr"), (STILL, "")]:
                self.assertEqual(place_of(after(move, address, times)), address)

    def test_places_of_more_letters_than_a_piece_may_have(self):
        for move, address, times in [(STILL, "l" * 150000, 10 ** 30), (UP, "l" * 200000, 1), (UP, "l" * 200000, 100)]:
            self.assertEqual(place_of(after(move, address, times)), one_by_one(move, address, min(times, 100)))

    def test_a_loop_of_several_letters(self):
        self.assertEqual(carried(CROSSING, "lr"), "lrlr")
        for address, times in [("lrl", 30), ("lr", 30), ("llr", 30), ("rl", 30), ("rrl", 30), ("lr" * 20, -19),
                               ("lr" * 20 + "l", -19), ("lr" * 20 + "r", -30), ("lr" * 20, -20), ("lr" * 20, -21)]:
            self.check(CROSSING, address, times)
        self.assertEqual(place_of(after(CROSSING, "llr", 9)), "lr" * 9 + "ll")
        front, loop, count, rest = after(CROSSING, "lrr", 10 ** 30)
        self.assertEqual(len(front) + len(loop) * count + len(rest), 3 + 2 * 10 ** 30)
        self.assertIn(loop[:2], ("lr", "rl"))
        with self.assertRaises(NotCarried):
            after(CROSSING, "lr" * 50, -10 ** 30)

    def test_numbers_that_are_none(self):
        for wrong in oracle.WRONG + [True, False, "1", (1, 1), [1]]:
            if type(wrong) is int:
                continue
            for address in ("", "lr"):
                with self.assertRaises(InvalidNumber) as caught:
                    after(UP, address, wrong)
                self.assertIs(caught.exception.value, wrong)

    def test_numbers_somewhat_beyond(self):
        for times in (10 ** 30 + 1, 10 ** 31):
            front, loop, count, rest = after(UP, "rl", times)
            self.assertEqual(len(front) + len(loop) * count + len(rest), 2 + times)


class Fixed(unittest.TestCase):
    """[53]"""

    def expected(self, move):
        """The stretches by trying: where the line bends, and where it crosses the even line between two bends."""
        at = oracle.line(move)
        ends = oracle.corners(move)
        rows = []
        for start, end in zip(ends, ends[1:]):
            low, high = at(start) - start, at(end) - end
            if low == 0 and high == 0:
                rows.append((start, end))
            elif low * high <= 0:
                zero = start + (end - start) * low / (low - high)
                rows.append((zero, zero))
        found = []
        for start, end in rows:
            if found and found[-1][1] == start:
                found[-1] = (found[-1][0], end)
            else:
                found.append((start, end))
        return found

    def test_all_stretches(self):
        for move in SMALL + SOME:
            rows = self.expected(move)
            self.assertEqual(fixed(move), [(oracle.plain(start), oracle.plain(end)) for start, end in rows])
            at = oracle.line(move)
            middles = [(end + start) / 2 for (_, end), (start, _) in zip(rows, rows[1:])]
            self.assertEqual(drifts(move), ["up" if at(middle) > middle else "down" for middle in middles])

    def test_single_numbers_and_whole_stretches(self):
        zero, one, half, quarter = (0, 1), (1, 1), (1, 2), (1, 4)
        self.assertEqual([fixed(STILL), drifts(STILL)], [[(zero, one)], []])
        self.assertEqual([fixed(UP * ~UP), drifts(UP * ~UP)], [[(zero, one)], []])
        self.assertEqual([fixed(~UP), drifts(~UP)], [[(zero, zero), (one, one)], ["down"]])
        low = UP.under("l")
        self.assertEqual([fixed(low), drifts(low)], [[(zero, zero), (half, one)], ["up"]])
        both = UP.under("l") * ~UP.under("r")
        self.assertEqual([fixed(both), drifts(both)], [[(zero, zero), (half, half), (one, one)], ["up", "down"]])
        apart = UP.under("ll") * UP.under("r")
        self.assertEqual(fixed(apart), [(zero, zero), (quarter, half), (one, one)])
        self.assertEqual(drifts(apart), ["up", "up"])

    def test_a_number_that_is_the_end_of_no_stretch(self):
        rows = [((0, 1), (0, 1)), ((1, 3), (1, 3)), ((1, 1), (1, 1))]
        self.assertEqual([fixed(CROSSING), drifts(CROSSING)], [rows, ["up", "down"]])
        self.assertEqual([fixed(~CROSSING), drifts(~CROSSING)], [rows, ["down", "up"]])
        rows = [((0, 1), (0, 1)), ((7, 12), (7, 12)), ((1, 1), (1, 1))]
        self.assertEqual(fixed(Move("(.(((..).).))", "((..)(.(..)))")), rows)

    def test_kinds_and_order(self):
        for move in SMALL + SOME:
            rows = fixed(move)
            self.assertEqual([type(rows), type(drifts(move))], [list, list])
            for row in rows:
                self.assertEqual([type(item) for item in (row,) + row + row[0] + row[1]], [tuple] * 3 + [int] * 4)
            numbers = [Fraction(*number) for row in rows for number in row]
            self.assertEqual(numbers, sorted(numbers))
            self.assertEqual([numbers[0], numbers[-1]], [0, 1])
            self.assertEqual(len(drifts(move)), len(rows) - 1)
            self.assertTrue(set(drifts(move)) <= {"up", "down"})

    def test_alike_moves_have_the_same(self):
        for move in SOME:
            more = UP * ~UP * move
            self.assertEqual([fixed(more), drifts(more)], [fixed(move), drifts(move)])


class Compare(unittest.TestCase):
    """[54]"""

    def expected(self, one, other):
        at, to = oracle.line(one), oracle.line(other)
        ends = sorted(set(oracle.corners(one) + oracle.corners(other)))
        # Between two neighbours both lines are even, so the first one at which they differ tells.
        apart = [at(end) - to(end) for end in ends if at(end) != to(end)]
        return 0 if not apart else 1 if apart[0] > 0 else -1

    def test_each_two_of_a_row(self):
        for one, other in itertools.product(SMALL[::2] + SOME[::2], repeat=2):
            found = compare(one, other)
            self.assertEqual(found, self.expected(one, other))
            self.assertEqual(compare(other, one), -found)
            self.assertIs(type(found), int)
            self.assertIs(found == 0, alike(one, other))

    def test_one_order(self):
        rows = SMALL[::4] + SOME[::4]
        for one, other, third in itertools.product(rows, repeat=3):
            if compare(one, other) <= 0 and compare(other, third) <= 0:
                self.assertLessEqual(compare(one, third), 0)

    def test_the_same_move_before_or_after_both(self):
        for one, other in itertools.product(SMALL[::5], SOME[::3]):
            for third in (UP, ~UP.under("l"), SOME[0], SOME[-3]):
                found = compare(one, other)
                self.assertEqual(compare(third * one, third * other), found)
                self.assertEqual(compare(one * third, other * third), found)

    def test_alike_moves(self):
        for move in SMALL + SOME:
            self.assertEqual([compare(move, move), compare(move, widest(move))], [0, 0])
            self.assertEqual([compare(move * UP * ~UP, move), compare(move, ~UP * UP * move)], [0, 0])

    def test_at_the_edges(self):
        self.assertEqual([compare(UP, STILL), compare(~UP, STILL), compare(UP * UP, UP)], [1, -1, 1])
        # Up to 1/8 the first two agree, and the other two nowhere behind 0.
        self.assertEqual([compare(UP.under("l"), UP), compare(UP.under("r"), UP)], [-1, -1])
        # Only the first difference counts: from the half on the other one is above.
        one = UP.under("l") * ~UP.under("r")
        self.assertEqual([compare(one, STILL), compare(STILL, one), compare(one, UP.under("r"))], [1, -1, 1])


if __name__ == "__main__":
    unittest.main()
