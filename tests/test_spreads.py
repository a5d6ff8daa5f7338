"""Points [11] and [12], and [1] to [6] for the functions of spreads."""

import itertools
import unittest

from fairarcs import spreads
from fairarcs.arcs import dark_in
from fairarcs.counts import nth_arc
from fairarcs.errors import InvalidDark, InvalidLength, InvalidNumber, InvalidPlace, InvalidStrand
from fairarcs.ranges import dark_range
from fairarcs.spreads import even_dark, is_even, widest
from samples import (HUGE, LARGE, NOT_INTEGERS, NOT_STRANDS, all_rings, as_strand, check_error, check_errors,
                     check_ways_to_pass, dark_table, scaled, within_steps)

RING = (("D", 2), ("L", 3), ("D", 1))
MANY = 10 ** 20


def plain_widest(ring):
    """What widest returns, from all lengths and all places."""
    table = dark_table(ring)
    spread = max(max(row) - min(row) for row in table)
    for length, row in enumerate(table):
        if max(row) - min(row) == spread:
            return spread, length, row.index(max(row)), row.index(min(row))


def plain_even(beads, dark):
    """The even ring of the document, as the list of its numbers of dark beads (0 or 1)."""
    floors = [place * dark // beads for place in range(beads + 1)]
    return [floors[place + 1] - floors[place] for place in range(beads)]


def gaps_ring(longer, colours="DL"):
    """A ring of 24 runs: 12 single beads, behind each of them MANY others, or one more if longer says so."""
    return tuple(itertools.chain(*[((colours[0], 1), (colours[1], MANY + more)) for more in longer]))


class Widest(unittest.TestCase):
    def test_small_rings(self):
        for ring in all_rings(9):
            self.assertEqual(widest(ring), plain_widest(ring), ring)

    def test_one_colour(self):
        for ring in ((("D", 1),), (("L", 1),), (("D", HUGE),), (("L", 10 ** 32 - 1),)):
            self.assertEqual(widest(ring), (0, 0, 0, 0))

    def test_a_large_ring_is_like_the_small_one(self):
        for ring in all_rings(7):
            expected = tuple(HUGE * number for number in plain_widest(ring))
            self.assertEqual(widest(scaled(ring, HUGE)), expected, ring)

    def test_large_rings(self):
        for ring in (LARGE, LARGE[1:], LARGE[:7], LARGE[3:9] + (("L", 5),)):
            spread, length, start, other = within_steps(10 ** 6, widest, ring)
            least, greatest = dark_range(ring, length)
            self.assertEqual(spread, greatest - least)
            self.assertEqual(start, nth_arc(ring, length, greatest, 0))
            self.assertEqual(other, nth_arc(ring, length, least, 0))
            beads = sum(count for _, count in ring)
            changes = [sum(count for _, count in ring[:k]) for k in range(len(ring))]
            lengths = {(low - high) % beads for low in changes for high in changes}
            self.assertIn(length, lengths)
            lengths |= {near for far in lengths for near in (far - 1, far + 1) if 0 <= near <= beads}
            for another in lengths:
                least, greatest = dark_range(ring, another)
                self.assertLessEqual(greatest - least, spread)
                if greatest - least == spread:
                    self.assertGreaterEqual(another, length)

    def test_two_and_four_runs(self):
        self.assertEqual(widest((("L", 3 * HUGE), ("D", 5 * HUGE))), (3 * HUGE, 3 * HUGE, 3 * HUGE, 0))
        # The two light runs at the ends of the strand are one run of the ring.
        ring = (("L", HUGE), ("D", 3 * HUGE), ("L", 2 * HUGE))
        self.assertEqual(widest(ring), (3 * HUGE, 3 * HUGE, HUGE, 4 * HUGE))


class Even(unittest.TestCase):
    def test_small_rings(self):
        for ring in all_rings(9):
            self.assertIs(is_even(ring), plain_widest(ring)[0] <= 1, ring)

    def test_the_even_rings_of_the_document_and_their_rotations(self):
        for beads in range(1, 25):
            for dark in range(beads + 1):
                ring = ["LD"[number] for number in plain_even(beads, dark)]
                for by in {0, 1, beads // 2, beads - 1}:
                    self.assertIs(is_even(as_strand(ring[by:] + ring[:by])), True)

    def test_long_runs(self):
        for colours in ("DL", "LD"):
            single, long_one = colours
            for first, second, even in ((0, 0, True), (0, 1, True), (1, 0, True), (0, 2, False), (3, 0, False),
                                        (0, MANY, False)):
                ring = ((single, 1), (long_one, MANY + first), (single, 1), (long_one, MANY + second))
                self.assertIs(is_even(ring), even, ring)
            self.assertIs(is_even(((single, 1), (long_one, MANY))), True)
            self.assertIs(is_even(((single, 2), (long_one, MANY))), False)
            self.assertIs(is_even(((long_one, 5), (single, 1), (long_one, MANY - 5))), True)
        self.assertIs(is_even((("D", MANY),)), True)
        self.assertIs(is_even((("L", 1),)), True)
        self.assertIs(is_even((("D", MANY), ("L", MANY))), False)

    def test_many_long_runs(self):
        for colours in ("DL", "LD"):
            for many in range(13):
                longer = plain_even(12, many)
                self.assertIs(within_steps(10 ** 6, is_even, gaps_ring(longer, colours)), True)
                if 2 <= many <= 10:
                    self.assertIs(within_steps(10 ** 6, is_even, gaps_ring(sorted(longer), colours)), False)


class EvenDark(unittest.TestCase):
    def test_rings_written_bead_by_bead(self):
        for beads in range(1, 10):
            for dark in range(beads + 1):
                ring = as_strand(["LD"[number] for number in plain_even(beads, dark)])
                for length, row in enumerate(dark_table(ring)):
                    self.assertEqual([even_dark(beads, dark, start, length) for start in range(beads)], row)

    def test_rings_of_few_runs(self):
        for ring in ((("L", HUGE - 1), ("D", 1)), (("L", HUGE - 1), ("D", 1)) * 2, (("L", HUGE - 1), ("D", 1)) * 12,
                     (("L", 1), ("D", HUGE)), (("L", HUGE - 1), ("D", 1), ("L", HUGE - 2), ("D", 1))):
            beads = sum(count for _, count in ring)
            dark = sum(count for colour, count in ring if colour == "D")
            for start in (0, 1, HUGE - 2, HUGE - 1, beads // 2, beads - 1):
                for length in (0, 1, 2, HUGE - 1, HUGE, beads // 2 + 3, beads - 1, beads):
                    self.assertEqual(even_dark(beads, dark, start, length), dark_in(ring, start, length))

    def test_the_floors_of_large_numbers(self):
        beads = 10 ** 40 - 3
        for dark in (0, 1, 7, 10 ** 20 + 9, beads // 3, beads - 1, beads):
            for start in (0, 1, 10 ** 39 + 1, beads // 2, beads - 1):
                for length in (0, 1, 10 ** 38 + 7, beads // 2, beads - 1, beads):
                    end = start + length
                    found = within_steps(1000, even_dark, beads, dark, start, length)
                    if end <= beads:
                        self.assertEqual(found, end * dark // beads - start * dark // beads)
                    else:
                        rest = (end - beads) * dark // beads
                        self.assertEqual(found, dark - start * dark // beads + rest)

    def test_no_beads_and_all_of_them(self):
        for beads, dark in ((1, 0), (1, 1), (10 ** 40, 10 ** 39 + 1), (HUGE, HUGE)):
            for start in (0, beads // 2, beads - 1):
                self.assertEqual(even_dark(beads, dark, start, 0), 0)
                self.assertEqual(even_dark(beads, dark, start, beads), dark)


class Errors(unittest.TestCase):
    def test_widest_and_is_even(self):
        for value in NOT_STRANDS:
            check_error(self, InvalidStrand, widest, value)
            check_error(self, InvalidStrand, is_even, value)

    def test_even_dark(self):
        wrong = [NOT_INTEGERS + [0, -1, -HUGE], NOT_INTEGERS + [-1, 11, HUGE], NOT_INTEGERS + [-1, 10, 11, HUGE],
                 NOT_INTEGERS + [-1, 11, HUGE]]
        check_errors(self, even_dark, [10, 4, 8, 3], wrong, [InvalidNumber, InvalidDark, InvalidPlace, InvalidLength])


class Interface(unittest.TestCase):
    def test_each_function_is_defined_in_its_file(self):
        for name in ("widest", "is_even", "even_dark"):
            self.assertEqual(getattr(spreads, name).__module__, "fairarcs.spreads")
            self.assertEqual(getattr(spreads, name).__name__, name)

    def test_arguments_by_position_and_by_name(self):
        for ring in (RING, None):
            check_ways_to_pass(self, widest, ("ring",), (ring,))
            check_ways_to_pass(self, is_even, ("ring",), (ring,))
        for args in ((10, 4, 8, 3), (0, 4, 8, 3), (10, 11, 8, 3), (10, 4, 10, 3), (10, 4, 8, 11)):
            check_ways_to_pass(self, even_dark, ("beads", "dark", "start", "length"), args)

    def test_the_kinds_of_the_results(self):
        answer = widest(RING)
        self.assertIs(answer.__class__, tuple)
        self.assertEqual([number.__class__ for number in answer], [int] * 4)
        self.assertIs(even_dark(10, 4, 8, 3).__class__, int)

    def test_the_arguments_are_the_same_afterwards(self):
        ring = tuple(RING)
        widest(ring)
        is_even(ring)
        self.assertEqual(ring, (("D", 2), ("L", 3), ("D", 1)))

    def test_the_examples(self):
        self.assertEqual(widest((("D", 2), ("L", 2))), (2, 2, 0, 2))
        self.assertIs(is_even((("D", 1), ("L", 2))), True)
        self.assertEqual(even_dark(10, 4, 8, 3), 1)


if __name__ == "__main__":
    unittest.main()
