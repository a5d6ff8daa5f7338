"""Points [4] and [7], and [1] to [3] for the functions of strands."""

import copy
import unittest

from fairarcs import strands
from fairarcs.errors import BeadError, InvalidIndex, InvalidPlace, InvalidStrand
from fairarcs.strands import colour_at, count_beads, count_dark, dark_before, dark_place, is_strand
from samples import HUGE, LARGE, NOT_INTEGERS, NOT_STRANDS, check_ways_to_pass, plain, small_strands, within_steps

NAMES = ("is_strand", "count_beads", "count_dark", "colour_at", "dark_before", "dark_place")
RING = (("D", 2), ("L", 3), ("D", 1))


class Strands(unittest.TestCase):
    def test_strands_are_strands(self):
        for strand in small_strands(4, 3):
            self.assertIs(is_strand(strand), True)
        for strand in (LARGE, LARGE[1:], (("D", HUGE),), (("L", 10 ** 32 - 1),), RING, RING[:2],
                       (("L", 1), ("D", 1), ("L", 1)), (("D", 1), ("L", 1)) * 12):
            self.assertIs(is_strand(strand), True)

    def test_long_strands_are_strands(self):
        self.assertIs(within_steps(10 ** 6, is_strand, (("D", 1), ("L", HUGE)) * 2500), True)
        self.assertIs(within_steps(10 ** 6, is_strand, (("D", 1), ("L", HUGE)) * 2500 + (("D", 4),)), True)

    def test_other_values_are_no_strands(self):
        for value in NOT_STRANDS:
            self.assertIs(is_strand(value), False, value)

    def test_a_count_of_another_kind_is_no_strand(self):
        for count in NOT_INTEGERS:
            self.assertIs(is_strand((("D", count),)), False, count)
            self.assertIs(is_strand((("D", 1), ("L", count), ("D", 2))), False, count)

    def test_a_value_that_only_equals_a_colour_is_none(self):
        class LikeDark:
            __hash__ = None

            def __eq__(self, other):
                return isinstance(other, str) and other == "D"

        self.assertIs(is_strand(((LikeDark(), 1),)), False)
        self.assertIs(is_strand((("L", 1), (LikeDark(), 1))), False)
        self.assertIs(is_strand((LikeDark(),)), False)
        self.assertIs(is_strand(LikeDark()), False)

    def test_the_value_is_the_same_afterwards(self):
        for value in ([("D", 1)], (["D", 1],), {"D": [1]}, (("D", [1]),), [[]], RING, [[("D", 1)], [("L", 2)]]):
            before = copy.deepcopy(value)
            is_strand(value)
            self.assertEqual(value, before)


class SmallStrands(unittest.TestCase):
    def test_counts(self):
        for strand in small_strands(5, 3):
            beads = plain(strand)
            self.assertEqual(count_beads(strand), len(beads))
            self.assertEqual(count_dark(strand), beads.count("D"))

    def test_colour_at_every_place(self):
        for strand in small_strands(5, 3):
            beads = plain(strand)
            self.assertEqual([colour_at(strand, place) for place in range(len(beads))], beads)

    def test_dark_before_every_place_and_behind_the_last_one(self):
        for strand in small_strands(5, 3):
            beads = plain(strand)
            for place in range(len(beads) + 1):
                self.assertEqual(dark_before(strand, place), beads[:place].count("D"))

    def test_dark_place_of_every_index(self):
        for strand in small_strands(5, 3):
            places = [place for place, colour in enumerate(plain(strand)) if colour == "D"]
            self.assertEqual([dark_place(strand, index) for index in range(len(places))], places)

    def test_the_wrong_places_and_indexes_of_every_strand(self):
        for strand in small_strands(4, 2):
            beads = plain(strand)
            for place in (-1, len(beads), len(beads) + 1, -len(beads)):
                self.assertRaises(InvalidPlace, colour_at, strand, place)
            for place in (-1, len(beads) + 1, -len(beads)):
                self.assertRaises(InvalidPlace, dark_before, strand, place)
            for index in (-1, beads.count("D"), len(beads)):
                self.assertRaises(InvalidIndex, dark_place, strand, index)


class LargeStrands(unittest.TestCase):
    def strands(self):
        return LARGE, LARGE[1:], LARGE[:23], tuple((colour, 10 ** 32 - 1) for colour, _ in LARGE), (("D", HUGE),)

    def test_counts(self):
        for strand in self.strands():
            self.assertEqual(within_steps(1000, count_beads, strand), sum(count for _, count in strand))
            dark = sum(count for colour, count in strand if colour == "D")
            self.assertEqual(within_steps(1000, count_dark, strand), dark)

    def test_the_ends_of_runs_and_the_places_beside_them(self):
        for strand in self.strands():
            begin = 0
            dark = 0
            for colour, count in strand:
                for step in (0, 1, 2, count // 2, count - 2, count - 1):
                    self.assertEqual(within_steps(2000, colour_at, strand, begin + step), colour)
                for step in (0, 1, 2, count // 2, count - 1, count):
                    before = dark + (step if colour == "D" else 0)
                    self.assertEqual(within_steps(2000, dark_before, strand, begin + step), before)
                if colour == "D":
                    for step in (0, 1, count // 2, count - 1):
                        self.assertEqual(within_steps(2000, dark_place, strand, dark + step), begin + step)
                    dark += count
                begin += count
            self.assertEqual(dark_before(strand, begin), dark)
            self.assertRaises(InvalidPlace, colour_at, strand, begin)
            self.assertRaises(InvalidPlace, dark_before, strand, begin + 1)
            self.assertRaises(InvalidIndex, dark_place, strand, dark)


class Errors(unittest.TestCase):
    def check(self, error, function, *args):
        with self.assertRaises(BeadError) as caught:
            function(*args)
        self.assertIs(caught.exception.__class__, error)

    def test_wrong_strands(self):
        for value in NOT_STRANDS:
            self.check(InvalidStrand, count_beads, value)
            self.check(InvalidStrand, count_dark, value)
            self.check(InvalidStrand, colour_at, value, 0)
            self.check(InvalidStrand, dark_before, value, 0)
            self.check(InvalidStrand, dark_place, value, 0)

    def test_wrong_places_and_indexes(self):
        for value in NOT_INTEGERS + [-1, -2, -HUGE, HUGE, 7]:
            self.check(InvalidPlace, colour_at, RING, value)
            self.check(InvalidPlace, dark_before, RING, value)
            self.check(InvalidIndex, dark_place, RING, value)
        self.check(InvalidPlace, colour_at, RING, 6)
        self.check(InvalidIndex, dark_place, RING, 3)

    def test_without_dark_beads_there_is_no_index(self):
        for value in (0, 1, -1, None):
            self.check(InvalidIndex, dark_place, (("L", 5),), value)

    def test_the_strand_is_checked_first(self):
        for function in (colour_at, dark_before, dark_place):
            for wrong in NOT_INTEGERS + [-1, HUGE]:
                self.check(InvalidStrand, function, (("D", 0),), wrong)
                self.check(InvalidStrand, function, None, wrong)


class Interface(unittest.TestCase):
    def test_each_function_is_defined_in_its_file(self):
        for name in NAMES:
            self.assertEqual(getattr(strands, name).__module__, "fairarcs.strands")
            self.assertEqual(getattr(strands, name).__name__, name)

    def test_arguments_by_position_and_by_name(self):
        check_ways_to_pass(self, is_strand, ("value",), (RING,))
        check_ways_to_pass(self, count_beads, ("strand",), (RING,))
        check_ways_to_pass(self, count_dark, ("strand",), (RING,))
        check_ways_to_pass(self, colour_at, ("strand", "place"), (RING, 4))
        check_ways_to_pass(self, dark_before, ("strand", "place"), (RING, 6))
        check_ways_to_pass(self, dark_place, ("strand", "index"), (RING, 2))
        check_ways_to_pass(self, dark_place, ("strand", "index"), (RING, 3))

    def test_the_kinds_of_the_results(self):
        for answer in (count_beads(RING), count_dark(RING), dark_before(RING, 1), dark_place(RING, 2)):
            self.assertIs(answer.__class__, int)
        self.assertIs(colour_at(RING, 1).__class__, str)

    def test_the_examples(self):
        self.assertEqual(count_dark((("D", 2), ("L", 2))), 2)
        self.assertEqual(dark_before((("D", 3), ("L", 6)), 5), 3)
        self.assertEqual(dark_place((("L", 4), ("D", 2)), 1), 5)


if __name__ == "__main__":
    unittest.main()
