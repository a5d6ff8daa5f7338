"""Point [9], and [1] to [6] for the functions of ranges."""

import unittest

from fairarcs import ranges
from fairarcs.errors import InvalidDark, InvalidLength, InvalidStrand
from fairarcs.ranges import dark_range, length_range
from samples import (HUGE, LARGE, NOT_INTEGERS, NOT_STRANDS, all_rings, check_errors, check_ways_to_pass, dark_table,
                     plain, scaled, within_steps)

RING = (("D", 2), ("L", 3), ("D", 1))
LARGE_RINGS = [LARGE, LARGE[1:], LARGE[:23], tuple((colour, 10 ** 32 - 1) for colour, _ in LARGE)]


def numbers(ring):
    """The numbers of the beads and of the dark beads of a ring."""
    return sum(count for _, count in ring), sum(count for colour, count in ring if colour == "D")


class SmallRings(unittest.TestCase):
    def test_dark_range_of_every_length(self):
        for ring in all_rings(8):
            for length, dark in enumerate(dark_table(ring)):
                self.assertEqual(dark_range(ring, length), (min(dark), max(dark)), (ring, length))

    def test_length_range_of_every_number_of_dark_beads(self):
        for ring in all_rings(8):
            table = dark_table(ring)
            for dark in range(plain(ring).count("D") + 1):
                lengths = [length for length, row in enumerate(table) if dark in row]
                self.assertEqual(length_range(ring, dark), (lengths[0], lengths[-1]), (ring, dark))
                self.assertEqual(lengths, list(range(lengths[0], lengths[-1] + 1)))

    def test_the_wrong_numbers_of_every_ring(self):
        for ring in all_rings(5):
            beads, dark = numbers(ring)
            for length in (-1, beads + 1, 2 * beads + 1):
                self.assertRaises(InvalidLength, dark_range, ring, length)
            for wrong in (-1, dark + 1, dark + beads):
                self.assertRaises(InvalidDark, length_range, ring, wrong)


class LargeRings(unittest.TestCase):
    def lengths(self, beads):
        return [0, 1, 2, 10 ** 31, beads // 3, beads // 2, beads - 10 ** 31 - 5, beads - 1, beads]

    def test_an_arc_and_the_other_beads_have_all_dark_beads(self):
        for ring in LARGE_RINGS:
            beads, all_dark = numbers(ring)
            for length in self.lengths(beads):
                least, greatest = within_steps(10 ** 4, dark_range, ring, length)
                self.assertEqual(dark_range(ring, beads - length), (all_dark - greatest, all_dark - least))
                # Some arc has at most, and some at least, the number that the arcs have on average.
                self.assertLessEqual(least * beads, length * all_dark)
                self.assertGreaterEqual(greatest * beads, length * all_dark)

    def test_a_large_ring_is_like_the_small_one(self):
        for ring in all_rings(6):
            for length, dark in enumerate(dark_table(ring)):
                expected = (HUGE * min(dark), HUGE * max(dark))
                self.assertEqual(dark_range(scaled(ring, HUGE), HUGE * length), expected)

    def test_length_range_is_left_where_dark_range_says_so(self):
        for ring in LARGE_RINGS:
            beads, all_dark = numbers(ring)
            for dark in self.lengths(all_dark):
                low, high = within_steps(10 ** 6, length_range, ring, dark)
                for length in (low, low + (high - low) // 2, high):
                    least, greatest = dark_range(ring, length)
                    self.assertTrue(least <= dark <= greatest, (dark, length))
                if low > 0:
                    self.assertLess(dark_range(ring, low - 1)[1], dark)
                if high < beads:
                    self.assertGreater(dark_range(ring, high + 1)[0], dark)

    def test_no_dark_beads_and_all_of_them(self):
        ring = (("D", HUGE), ("L", 3 * HUGE), ("D", 2 * HUGE), ("L", HUGE))
        self.assertEqual(length_range(ring, 0), (0, 3 * HUGE))
        self.assertEqual(length_range(ring, 3 * HUGE), (4 * HUGE, 7 * HUGE))
        self.assertEqual(length_range((("L", HUGE),), 0), (0, HUGE))
        self.assertEqual(length_range((("D", HUGE),), HUGE), (HUGE, HUGE))
        self.assertEqual(length_range((("D", HUGE),), 5), (5, 5))


class Errors(unittest.TestCase):
    def test_dark_range(self):
        wrong = [NOT_STRANDS, NOT_INTEGERS + [-1, -HUGE, 7, 8, HUGE]]
        check_errors(self, dark_range, [RING, 3], wrong, [InvalidStrand, InvalidLength])

    def test_length_range(self):
        wrong = [NOT_STRANDS, NOT_INTEGERS + [-1, -HUGE, 4, 6, HUGE]]
        check_errors(self, length_range, [RING, 3], wrong, [InvalidStrand, InvalidDark])


class Interface(unittest.TestCase):
    def test_each_function_is_defined_in_its_file(self):
        for name in ("dark_range", "length_range"):
            self.assertEqual(getattr(ranges, name).__module__, "fairarcs.ranges")
            self.assertEqual(getattr(ranges, name).__name__, name)

    def test_arguments_by_position_and_by_name(self):
        for number in (0, 3, 4, 7):
            check_ways_to_pass(self, dark_range, ("ring", "length"), (RING, number))
            check_ways_to_pass(self, length_range, ("ring", "dark"), (RING, number))

    def test_the_kinds_of_the_results(self):
        for answer in (dark_range(RING, 2), length_range(RING, 2)):
            self.assertIs(answer.__class__, tuple)
            self.assertEqual([number.__class__ for number in answer], [int, int])

    def test_the_arguments_are_the_same_afterwards(self):
        ring = tuple(RING)
        dark_range(ring, 4)
        length_range(ring, 2)
        self.assertEqual(ring, (("D", 2), ("L", 3), ("D", 1)))

    def test_the_examples(self):
        self.assertEqual(dark_range((("D", 2), ("L", 2)), 2), (0, 2))
        self.assertEqual(length_range((("D", 2), ("L", 2)), 1), (1, 3))


if __name__ == "__main__":
    unittest.main()
