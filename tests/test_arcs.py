"""Points [5] and [8], and [1] to [3] for the functions of arcs."""

import inspect
import unittest

from fairarcs import arcs
from fairarcs.arcs import beads_of, dark_in, other_arc
from fairarcs.errors import BeadError, InvalidLength, InvalidPlace, InvalidStrand
from samples import (HUGE, LARGE, NOT_INTEGERS, NOT_STRANDS, check_ways_to_pass, plain, plain_arc, small_strands,
                     some, within_steps)

NAMES = ("dark_in", "other_arc", "beads_of")
RING = (("D", 2), ("L", 3), ("D", 1))


def first_bead(*args):
    return next(beads_of(*args))


class SmallRings(unittest.TestCase):
    def arcs(self):
        for ring in small_strands(4, 3):
            beads = len(plain(ring))
            for start in range(beads):
                for length in range(beads + 1):
                    yield ring, start, length

    def test_dark_in_every_arc(self):
        for ring, start, length in self.arcs():
            self.assertEqual(dark_in(ring, start, length), plain_arc(ring, start, length).count("D"))

    def test_beads_of_every_arc(self):
        for ring, start, length in self.arcs():
            self.assertEqual(list(beads_of(ring, start, length)), plain_arc(ring, start, length))

    def test_other_arc_of_every_arc(self):
        for ring, start, length in self.arcs():
            beads = len(plain(ring))
            places = [(start + k) % beads for k in range(length)]
            other, rest = other_arc(ring, start, length)
            self.assertEqual(sorted(places + [(other + k) % beads for k in range(rest)]), list(range(beads)))
            if length > 0:
                self.assertEqual(other, (places[-1] + 1) % beads)
            else:
                self.assertEqual(other, start)

    def test_the_wrong_arcs_of_every_ring(self):
        for ring in small_strands(3, 2):
            beads = len(plain(ring))
            for function in (dark_in, other_arc, first_bead):
                for start in (-1, beads, beads + 1):
                    self.assertRaises(InvalidPlace, function, ring, start, 1)
                for length in (-1, beads + 1, 2 * beads + 1):
                    self.assertRaises(InvalidLength, function, ring, 0, length)


class LargeRings(unittest.TestCase):
    ring = (("D", HUGE), ("L", 2 * HUGE), ("D", 3 * HUGE), ("L", 4 * HUGE))

    def test_dark_in(self):
        for start, length, dark in (
                (0, 0, 0), (0, 10 * HUGE, 4 * HUGE), (10 * HUGE - 1, 10 * HUGE, 4 * HUGE), (0, HUGE, HUGE),
                (0, HUGE + 1, HUGE), (HUGE - 1, 2, 1), (HUGE - 1, 2 * HUGE + 2, 2), (10 * HUGE - 1, 1, 0),
                (10 * HUGE - 1, 2, 1), (6 * HUGE - 1, 4 * HUGE + 2, 2), (5 * HUGE, 9 * HUGE, 3 * HUGE),
                (5 * HUGE, 7 * HUGE + 1, 2 * HUGE), (5 * HUGE, 8 * HUGE + 1, 2 * HUGE + 1)):
            self.assertEqual(within_steps(1000, dark_in, self.ring, start, length), dark, (start, length))

    def test_dark_in_at_the_ends_of_the_runs_of_many(self):
        beads = sum(count for _, count in LARGE)
        for k in range(24):
            start = sum(count for _, count in LARGE[:k])
            for more in range(24):
                turn = (LARGE * 2)[k:k + more]
                length = sum(count for _, count in turn)
                dark = sum(count for colour, count in turn if colour == "D")
                self.assertEqual(within_steps(2000, dark_in, LARGE, start, length), dark)
                following = (LARGE * 2)[k + more][0] == "D"
                self.assertEqual(dark_in(LARGE, start, length + 1), dark + following)
                self.assertEqual(other_arc(LARGE, start, length), ((start + length) % beads, beads - length))

    def test_other_arc(self):
        self.assertEqual(other_arc(self.ring, 0, 0), (0, 10 * HUGE))
        self.assertEqual(other_arc(self.ring, 0, 10 * HUGE), (0, 0))
        self.assertEqual(other_arc(self.ring, 7 * HUGE, 5 * HUGE), (2 * HUGE, 5 * HUGE))
        self.assertEqual(other_arc(self.ring, 10 * HUGE - 1, 1), (0, 10 * HUGE - 1))

    def test_the_first_beads_come_at_once(self):
        self.assertEqual(within_steps(1000, some, beads_of(self.ring, HUGE - 2, 3 * HUGE), 5), list("DDLLL"))
        self.assertEqual(within_steps(1000, some, beads_of(self.ring, 10 * HUGE - 2, 10 * HUGE), 4), list("LLDD"))
        self.assertEqual(within_steps(1000, some, beads_of((("D", HUGE),), 5, HUGE), 3), list("DDD"))
        self.assertEqual(within_steps(1000, some, beads_of(self.ring, HUGE - 1, 2), 9), list("DL"))

    def test_two_generators_in_turn(self):
        first = beads_of(self.ring, HUGE - 2, 4)
        second = beads_of(self.ring, 6 * HUGE - 1, HUGE)
        turns = [(next(first), next(second)) for _ in range(4)]
        self.assertEqual(turns, [("D", "D"), ("D", "L"), ("L", "L"), ("L", "L")])
        self.assertEqual(list(first), [])
        self.assertEqual(next(second), "L")

    def test_two_generators_of_one_arc_in_turn(self):
        first = beads_of(RING, 4, 5)
        second = beads_of(RING, 4, 5)
        self.assertEqual(list(zip(first, second)), list(zip("LDDDL", "LDDDL")))


class Errors(unittest.TestCase):
    def check(self, error, *args):
        for function in (dark_in, other_arc, first_bead):
            with self.assertRaises(BeadError) as caught:
                function(*args)
            self.assertIs(caught.exception.__class__, error)

    def test_wrong_rings(self):
        for value in NOT_STRANDS:
            self.check(InvalidStrand, value, 0, 0)

    def test_wrong_starts(self):
        for value in NOT_INTEGERS + [-1, -HUGE, 6, 7, HUGE]:
            self.check(InvalidPlace, RING, value, 0)

    def test_wrong_lengths(self):
        for value in NOT_INTEGERS + [-1, -HUGE, 7, 8, HUGE]:
            self.check(InvalidLength, RING, 0, value)

    def test_the_arguments_are_checked_in_their_order(self):
        for wrong in NOT_INTEGERS + [-1, HUGE]:
            self.check(InvalidStrand, (), wrong, wrong)
            self.check(InvalidStrand, None, 0, wrong)
            self.check(InvalidPlace, RING, wrong, wrong)
            self.check(InvalidPlace, RING, wrong, -1)

    def test_a_generator_raises_when_its_first_value_is_asked_for(self):
        for error, args in ((InvalidStrand, (None, 0, 0)), (InvalidPlace, (RING, 6, 0)), (InvalidLength, (RING, 0, 7))):
            beads = beads_of(*args)
            with self.assertRaises(BeadError) as caught:
                next(beads)
            self.assertIs(caught.exception.__class__, error)


class Interface(unittest.TestCase):
    def test_each_function_is_defined_in_its_file(self):
        for name in NAMES:
            self.assertEqual(getattr(arcs, name).__module__, "fairarcs.arcs")
            self.assertEqual(getattr(arcs, name).__name__, name)

    def test_arguments_by_position_and_by_name(self):
        for name in NAMES:
            for args in ((RING, 4, 5), (RING, 0, 6), (RING, 6, 0), (RING, 0, 7)):
                check_ways_to_pass(self, getattr(arcs, name), ("ring", "start", "length"), args)

    def test_the_kinds_of_the_results(self):
        self.assertIs(dark_in(RING, 0, 3).__class__, int)
        other = other_arc(RING, 4, 3)
        self.assertIs(other.__class__, tuple)
        self.assertEqual([number.__class__ for number in other], [int, int])
        self.assertTrue(inspect.isgenerator(beads_of(RING, 0, 3)))

    def test_the_arguments_are_the_same_afterwards(self):
        ring = tuple(RING)
        dark_in(ring, 4, 5)
        other_arc(ring, 4, 5)
        list(beads_of(ring, 4, 5))
        self.assertEqual(ring, (("D", 2), ("L", 3), ("D", 1)))

    def test_the_examples(self):
        self.assertEqual(dark_in((("D", 2), ("L", 2)), 3, 3), 2)
        self.assertEqual(other_arc((("D", 2), ("L", 2)), 3, 3), (2, 1))
        self.assertEqual(list(beads_of((("D", 2), ("L", 2)), 3, 2)), ["L", "D"])


if __name__ == "__main__":
    unittest.main()
