"""Point [10], and [1] to [6] for the functions of counts."""

import inspect
import unittest

from fairarcs import counts
from fairarcs.arcs import dark_in
from fairarcs.counts import count_arcs, nth_arc, starts
from fairarcs.errors import InvalidDark, InvalidIndex, InvalidLength, InvalidStrand
from fairarcs.ranges import dark_range
from samples import (HUGE, LARGE, NOT_INTEGERS, NOT_STRANDS, all_rings, check_error, check_errors,
                     check_ways_to_pass, dark_table, some, within_steps)

RING = (("D", 2), ("L", 3), ("D", 1))
# Two dark and two light runs; the ends of the arcs of length 3 * HUGE meet other runs than their starts.
FOUR = (("D", HUGE), ("L", 2 * HUGE), ("D", 3 * HUGE), ("L", 4 * HUGE))


class SmallRings(unittest.TestCase):
    def test_the_places_of_every_length_and_number(self):
        for ring in all_rings(7):
            for length, row in enumerate(dark_table(ring)):
                for dark in range(len(row) + 2):
                    places = [place for place, number in enumerate(row) if number == dark]
                    self.assertEqual(list(starts(ring, length, dark)), places, (ring, length, dark))
                    self.assertEqual(count_arcs(ring, length, dark), len(places))
                    self.assertEqual([nth_arc(ring, length, dark, k) for k in range(len(places))], places)
                    for index in (-1, len(places), len(places) + 1, -len(places) - 1):
                        self.assertRaises(InvalidIndex, nth_arc, ring, length, dark, index)


class LargeRings(unittest.TestCase):
    def samples(self):
        beads = sum(count for _, count in LARGE)
        for ring in (LARGE, LARGE[1:], FOUR):
            for length in (0, 1, HUGE, 3 * HUGE, 10 * HUGE - 1, 10 ** 31 + 5, beads // 2, beads - 1, beads):
                if length <= sum(count for _, count in ring):
                    least, greatest = dark_range(ring, length)
                    for dark in {least, least + 1, (least + greatest) // 2, greatest}:
                        if dark <= greatest:
                            yield ring, length, dark

    def test_nth_arc_ascends_and_starts_begins_with_the_same_places(self):
        for ring, length, dark in self.samples():
            many = within_steps(10 ** 4, count_arcs, ring, length, dark)
            self.assertGreater(many, 0)
            indexes = sorted({k for k in (0, 1, 2, 3, many // 3, many // 2, many - 2, many - 1) if 0 <= k < many})
            places = [within_steps(10 ** 4, nth_arc, ring, length, dark, k) for k in indexes]
            self.assertEqual(places, sorted(set(places)))
            for place in places:
                self.assertEqual(dark_in(ring, place, length), dark)
            first = within_steps(10 ** 4, some, starts(ring, length, dark), 4)
            self.assertEqual(first, [nth_arc(ring, length, dark, k) for k in range(min(4, many))])
            self.assertRaises(InvalidIndex, nth_arc, ring, length, dark, many)

    def test_places_that_lie_in_several_stretches(self):
        # The arcs from 0 to HUGE on, the one from 5 * HUGE on, and those from 8 * HUGE on.
        self.assertEqual(count_arcs(FOUR, 3 * HUGE, HUGE), 3 * HUGE + 2)
        for index, place in ((0, 0), (1, 1), (HUGE // 2, HUGE // 2), (HUGE, HUGE), (HUGE + 1, 5 * HUGE),
                             (HUGE + 2, 8 * HUGE), (HUGE + 3, 8 * HUGE + 1), (3 * HUGE + 1, 10 * HUGE - 1)):
            self.assertEqual(nth_arc(FOUR, 3 * HUGE, HUGE, index), place)
        self.assertEqual(count_arcs(FOUR, 3 * HUGE, 0), HUGE + 1)
        for index in (0, 1, HUGE // 3, HUGE - 1, HUGE):
            self.assertEqual(nth_arc(FOUR, 3 * HUGE, 0, index), 6 * HUGE + index)

    def test_some_counts(self):
        self.assertEqual(count_arcs(FOUR, 0, 0), 10 * HUGE)
        self.assertEqual(count_arcs(FOUR, 10 * HUGE, 4 * HUGE), 10 * HUGE)
        self.assertEqual(count_arcs(FOUR, 3 * HUGE, 3 * HUGE), 1)
        self.assertEqual(count_arcs(FOUR, 1, 1), 4 * HUGE)
        self.assertEqual(count_arcs(FOUR, HUGE + 1, HUGE + 1), 2 * HUGE)
        self.assertEqual(count_arcs(FOUR, 3 * HUGE, 3 * HUGE + 1), 0)
        self.assertEqual(count_arcs(FOUR, 3 * HUGE, 10 ** 39), 0)

    def test_the_counts_of_one_length_add_up_to_all_beads(self):
        # One colour has few beads, so that there are few numbers of dark beads to try.
        few_dark = tuple((colour, k + 1 if colour == "D" else 10 ** 31 * (k + 1))
                         for k, (colour, _) in enumerate(LARGE))
        few_light = tuple(("DL"[colour == "D"], count) for colour, count in few_dark)
        for ring in (few_dark, few_dark[1:], few_light, few_light[1:]):
            beads = sum(count for _, count in ring)
            all_dark = sum(count for colour, count in ring if colour == "D")
            for length in (0, 1, 7, 10 ** 31, 10 ** 31 + 3, beads // 2, beads - 2, beads):
                least, greatest = dark_range(ring, length)
                found = {dark: count_arcs(ring, length, dark) for dark in range(least, greatest + 1)}
                self.assertEqual(sum(found.values()), beads, (ring, length))
                self.assertEqual(sum(dark * many for dark, many in found.items()), length * all_dark)
                self.assertTrue(all(many > 0 for many in found.values()))

    def test_two_generators_in_turn(self):
        first = starts(FOUR, 1, 1)
        second = starts(FOUR, 1, 1)
        third = starts(FOUR, 1, 0)
        turns = [(next(first), next(second), next(third)) for _ in range(3)]
        self.assertEqual(turns, [(0, 0, HUGE), (1, 1, HUGE + 1), (2, 2, HUGE + 2)])
        self.assertEqual(next(first), 3)
        self.assertEqual(next(third), HUGE + 3)
        self.assertEqual(next(second), 3)

    def test_starts_ends_at_once_behind_its_last_place(self):
        self.assertEqual(within_steps(10 ** 4, some, starts(FOUR, 3 * HUGE, 3 * HUGE), 9), [3 * HUGE])
        self.assertEqual(within_steps(10 ** 4, some, starts(FOUR, 3 * HUGE, 10 ** 39), 9), [])


class Errors(unittest.TestCase):
    wrong = [NOT_STRANDS, NOT_INTEGERS + [-1, -HUGE, 7, 8, HUGE], NOT_INTEGERS + [-1, -2, -HUGE]]
    errors = [InvalidStrand, InvalidLength, InvalidDark]

    def test_count_arcs_and_starts(self):
        check_errors(self, count_arcs, [RING, 2, 1], self.wrong, self.errors)
        check_errors(self, starts, [RING, 2, 1], self.wrong, self.errors)

    def test_nth_arc(self):
        wrong = self.wrong + [NOT_INTEGERS + [-1, -2, -HUGE, 2, 3, HUGE]]
        check_errors(self, nth_arc, [RING, 2, 1, 1], wrong, self.errors + [InvalidIndex])

    def test_no_index_if_there_is_no_such_arc(self):
        for index in NOT_INTEGERS + [0, 1, -1]:
            check_error(self, InvalidIndex, nth_arc, RING, 2, 3, index)

    def test_starts_raises_when_its_first_value_is_asked_for(self):
        for error, args in ((InvalidStrand, (None, 0, 0)), (InvalidLength, (RING, 7, 0)), (InvalidDark, (RING, 0, -1))):
            places = starts(*args)
            with self.assertRaises(ValueError) as caught:
                next(places)
            self.assertIs(caught.exception.__class__, error)


class Interface(unittest.TestCase):
    def test_each_function_is_defined_in_its_file(self):
        for name in ("count_arcs", "nth_arc", "starts"):
            self.assertEqual(getattr(counts, name).__module__, "fairarcs.counts")
            self.assertEqual(getattr(counts, name).__name__, name)

    def test_arguments_by_position_and_by_name(self):
        for args in ((RING, 2, 1), (RING, 7, 1), (RING, 2, -1), (RING, 2, 5)):
            check_ways_to_pass(self, count_arcs, ("ring", "length", "dark"), args)
            check_ways_to_pass(self, starts, ("ring", "length", "dark"), args)
            check_ways_to_pass(self, nth_arc, ("ring", "length", "dark", "index"), args + (1,))

    def test_the_kinds_of_the_results(self):
        self.assertIs(count_arcs(RING, 2, 1).__class__, int)
        self.assertIs(nth_arc(RING, 2, 1, 0).__class__, int)
        self.assertTrue(inspect.isgenerator(starts(RING, 2, 1)))
        self.assertEqual([place.__class__ for place in starts(RING, 2, 1)], [int, int])

    def test_the_arguments_are_the_same_afterwards(self):
        ring = tuple(RING)
        count_arcs(ring, 2, 1)
        nth_arc(ring, 2, 1, 1)
        list(starts(ring, 2, 1))
        self.assertEqual(ring, (("D", 2), ("L", 3), ("D", 1)))

    def test_the_examples(self):
        self.assertEqual(count_arcs((("D", 2), ("L", 2)), 2, 1), 2)
        self.assertEqual(nth_arc((("D", 2), ("L", 2)), 2, 1, 1), 3)
        self.assertEqual(list(starts((("D", 2), ("L", 2)), 2, 1)), [1, 3])


if __name__ == "__main__":
    unittest.main()
