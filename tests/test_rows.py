"""Point [16], and [1] to [6] for the functions of rows."""

import itertools
import random
import unittest

from fairarcs import rows
from fairarcs.counts import count_arcs
from fairarcs.errors import InvalidIndex, InvalidStrand, NotDivisible
from fairarcs.rows import count_halvings, fewest_row_cuts, nth_halving
from fairarcs.strands import dark_before
from samples import (HUGE, LARGE, NOT_INTEGERS, NOT_STRANDS, all_rings, as_strand, check_error, check_errors,
                     check_ways_to_pass, plain, scaled, within_steps)

ROW = (("D", 2), ("L", 2))
ODD_ROWS = [(("D", 1),), (("L", 3),), (("D", 1), ("L", 1)), (("D", 2), ("L", 1)), (("D", 1), ("L", 2)),
            (("D", 3), ("L", 3)), (("L", 1), ("D", 1), ("L", 2)), (("D", 2 * HUGE), ("L", 2 * HUGE + 1)),
            (("D", 2 * HUGE + 1), ("L", 2 * HUGE + 1)), (("L", HUGE), ("D", HUGE + 1))]


def plain_halvings(row):
    """The places of all fair halves, bead by bead."""
    beads = plain(row)
    half = len(beads) // 2
    return [place for place in range(half + 1)
            if 2 * beads[place:place + half].count("D") == beads.count("D")]


def is_halving(row, place):
    """Whether a fair half of a large row begins at a place."""
    beads = sum(count for _, count in row)
    dark = sum(count for colour, count in row if colour == "D")
    if not 0 <= place <= beads // 2:
        return False
    return 2 * (dark_before(row, place + beads // 2) - dark_before(row, place)) == dark


def large_rows():
    chance = random.Random(16)
    for runs in (1, 2, 3, 7, 20, 20, 20, 20):
        yield tuple(("DL"[k % 2], 2 * chance.randint(1, HUGE)) for k in range(runs))
        yield tuple(("LD"[k % 2], 2 * chance.choice((1, 2, 3, HUGE - 1, HUGE))) for k in range(runs))
    yield scaled(LARGE, 2)
    yield scaled(LARGE[1:], 2)


class SmallRows(unittest.TestCase):
    def check_row(self, row):
        places = plain_halvings(row)
        self.assertGreater(len(places), 0)
        self.assertEqual(count_halvings(row), len(places), row)
        self.assertEqual([nth_halving(row, k) for k in range(len(places))], places, row)
        self.assertEqual(fewest_row_cuts(row), 1 if places[0] == 0 else 2)
        for index in (-1, len(places), -len(places) - 1):
            self.assertRaises(InvalidIndex, nth_halving, row, index)

    def test_all_rows_of_up_to_ten_beads(self):
        for row in all_rings(10):
            beads = plain(row)
            if len(beads) % 2 == 0 and beads.count("D") % 2 == 0:
                self.check_row(row)
            else:
                for function in (count_halvings, fewest_row_cuts):
                    self.assertRaises(NotDivisible, function, row)
                self.assertRaises(NotDivisible, nth_halving, row, 0)

    def test_rows_of_twelve_and_fourteen_beads(self):
        for many in (12, 14):
            for dark in range(0, many + 1, 2):
                for places in itertools.combinations(range(many), dark):
                    self.check_row(as_strand(["D" if place in places else "L" for place in range(many)]))

    def test_all_places_of_a_row_of_one_colour(self):
        for beads in (2, 4, 8):
            for colour in "DL":
                self.assertEqual(count_halvings(((colour, beads),)), beads // 2 + 1)
                self.assertEqual(nth_halving(((colour, beads),), beads // 2), beads // 2)


class LargeRows(unittest.TestCase):
    def indexes(self, many):
        return sorted({k for k in (0, 1, 2, many // 3, many // 2, many - 2, many - 1) if 0 <= k < many})

    def test_each_place_is_a_fair_half(self):
        for row in large_rows():
            many = within_steps(10 ** 5, count_halvings, row)
            self.assertGreater(many, 0)
            places = [within_steps(10 ** 5, nth_halving, row, k) for k in self.indexes(many)]
            self.assertEqual(places, sorted(set(places)))
            for place in places:
                self.assertTrue(is_halving(row, place))
            for index in (-1, many, many + HUGE):
                self.assertRaises(InvalidIndex, nth_halving, row, index)
            self.assertEqual(fewest_row_cuts(row), 1 if is_halving(row, 0) else 2)

    def test_no_place_between_two_neighbours_is_a_fair_half(self):
        for row in large_rows():
            many = count_halvings(row)
            last = sum(count for _, count in row) // 2
            for index in self.indexes(many):
                place = nth_halving(row, index)
                low = nth_halving(row, index - 1) if index > 0 else -1
                high = nth_halving(row, index + 1) if index < many - 1 else last + 1
                for between in {low + 1, (low + place) // 2, place - 1}:
                    if low < between < place:
                        self.assertFalse(is_halving(row, between))
                for between in {place + 1, (high + place) // 2, high - 1}:
                    if place < between < high:
                        self.assertFalse(is_halving(row, between))

    def test_the_number_agrees_with_that_of_the_arcs_of_the_ring(self):
        for row in large_rows():
            beads = sum(count for _, count in row)
            dark = sum(count for colour, count in row if colour == "D")
            # Of the arcs from s and s + n / 2 on both are fair or none is; only the places 0 and n / 2 count twice.
            arcs = count_arcs(row, beads // 2, dark // 2)
            self.assertEqual(count_halvings(row), arcs // 2 + int(is_halving(row, 0)))

    def test_mirrored_rows(self):
        for row in large_rows():
            many = count_halvings(row)
            last = sum(count for _, count in row) // 2
            self.assertEqual(count_halvings(row[::-1]), many)
            self.assertEqual(fewest_row_cuts(row[::-1]), fewest_row_cuts(row))
            for index in self.indexes(many):
                self.assertEqual(nth_halving(row[::-1], many - 1 - index), last - nth_halving(row, index))

    def test_scaled_rows(self):
        factor = HUGE + 7
        for row in all_rings(8):
            beads = plain(row)
            if len(beads) % 2 == 0 and beads.count("D") % 2 == 0:
                small = plain_halvings(row)
                # Between two neighbouring places of the small row all places of the large one are fair, or none is.
                wide = [place for place in small if place + 1 in small]
                large = scaled(row, factor)
                many = len(small) + (factor - 1) * len(wide)
                self.assertEqual(count_halvings(large), many)
                self.assertEqual(nth_halving(large, 0), small[0] * factor)
                self.assertEqual(nth_halving(large, many - 1), small[-1] * factor)
                if wide:
                    before = small.index(wide[0])
                    self.assertEqual(nth_halving(large, before + 5), wide[0] * factor + 5)
                self.assertEqual(fewest_row_cuts(large), fewest_row_cuts(row))


class Errors(unittest.TestCase):
    def test_the_row(self):
        check_errors(self, count_halvings, [ROW], [NOT_STRANDS], [InvalidStrand])
        check_errors(self, fewest_row_cuts, [ROW], [NOT_STRANDS], [InvalidStrand])

    def test_the_index(self):
        check_errors(self, nth_halving, [ROW, 0], [NOT_STRANDS, NOT_INTEGERS + [-1, 1, 2, HUGE]],
                     [InvalidStrand, InvalidIndex])

    def test_odd_numbers_of_beads_or_dark_beads(self):
        for row in ODD_ROWS:
            self.assertEqual(check_error(self, NotDivisible, count_halvings, row).index, 0)
            self.assertEqual(check_error(self, NotDivisible, fewest_row_cuts, row).index, 0)
            for index in [0, 1, -1] + NOT_INTEGERS:
                self.assertEqual(check_error(self, NotDivisible, nth_halving, row, index).index, 0)


class Interface(unittest.TestCase):
    def test_each_function_is_defined_in_its_file(self):
        for name in ("count_halvings", "nth_halving", "fewest_row_cuts"):
            self.assertEqual(getattr(rows, name).__module__, "fairarcs.rows")
            self.assertEqual(getattr(rows, name).__name__, name)

    def test_arguments_by_position_and_by_name(self):
        for row in (ROW, (("D", 4),), (("D", 1),), ()):
            check_ways_to_pass(self, count_halvings, ("row",), (row,))
            check_ways_to_pass(self, fewest_row_cuts, ("row",), (row,))
            for index in (0, 1, -1):
                check_ways_to_pass(self, nth_halving, ("row", "index"), (row, index))

    def test_the_kinds_of_the_results(self):
        for value in (count_halvings(ROW), nth_halving(ROW, 0), fewest_row_cuts(ROW)):
            self.assertIs(value.__class__, int)

    def test_the_arguments_are_the_same_afterwards(self):
        row = tuple(ROW)
        count_halvings(row)
        nth_halving(row, 0)
        fewest_row_cuts(row)
        self.assertEqual(row, (("D", 2), ("L", 2)))

    def test_the_examples(self):
        self.assertEqual(count_halvings((("D", 2), ("L", 2))), 1)
        self.assertEqual(nth_halving((("D", 2), ("L", 2)), 0), 1)
        self.assertEqual(fewest_row_cuts((("D", 2), ("L", 2))), 2)


if __name__ == "__main__":
    unittest.main()
