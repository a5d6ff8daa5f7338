"""Point [15], and [1] to [6] for the functions of straight."""

import itertools
import random
import unittest

from fairarcs import straight
from fairarcs.arcs import dark_in
from fairarcs.counts import count_arcs
from fairarcs.errors import InvalidIndex, InvalidPersons, InvalidStrand, NotDivisible
from fairarcs.shares import count_cuts, share
from fairarcs.straight import count_straight, fewest_cuts, nth_straight
from samples import (HUGE, LARGE, NOT_INTEGERS, NOT_STRANDS, all_rings, as_strand, check_error, check_errors,
                     check_ways_to_pass, plain, scaled, within_steps)

RING = (("D", 2), ("L", 2))
NINE = (("D", 3), ("L", 6))
NOT_PERSONS = NOT_INTEGERS + [0, -1, -2, -HUGE]


def plain_straight(ring, persons):
    """The starts of all straight shares, bead by bead."""
    beads = plain(ring)
    length = len(beads) // persons
    dark = beads.count("D") // persons
    found = []
    for start in range(length):
        turned = beads[start:] + beads[:start]
        if all(turned[k * length:(k + 1) * length].count("D") == dark for k in range(persons)):
            found.append(start)
    return found


def divides(ring, persons):
    beads = plain(ring)
    return len(beads) % persons == 0 and beads.count("D") % persons == 0


def is_straight(ring, persons, start):
    """Whether a straight share begins at a place of a large ring."""
    beads = sum(count for _, count in ring)
    dark = sum(count for colour, count in ring if colour == "D")
    return all(dark_in(ring, start + k * (beads // persons), beads // persons) == dark // persons
               for k in range(persons))


def divisions(beads):
    """All ways to give so many beads to three persons equally, as (owners, cuts)."""
    for owners in itertools.product(range(3), repeat=beads):
        if is_fair(owners):
            yield owners, sum(owners[k] != owners[k - 1] for k in range(beads))


def is_fair(owners):
    return owners.count(0) == owners.count(1) == owners.count(2)


class SmallRings(unittest.TestCase):
    def check_ring(self, ring):
        beads = sum(count for _, count in ring)
        for persons in range(1, beads + 2):
            if not divides(ring, persons):
                self.assertRaises(NotDivisible, count_straight, ring, persons)
                self.assertRaises(NotDivisible, nth_straight, ring, persons, 0)
                continue
            places = plain_straight(ring, persons)
            self.assertEqual(count_straight(ring, persons), len(places), (ring, persons))
            self.assertEqual([nth_straight(ring, persons, k) for k in range(len(places))], places, (ring, persons))
            for index in (-1, len(places), -len(places) - 1):
                self.assertRaises(InvalidIndex, nth_straight, ring, persons, index)
            if persons == 3:
                self.assertEqual(fewest_cuts(ring, 3), 3 if places else 4)
            elif persons < 3:
                self.assertEqual(fewest_cuts(ring, persons), 2 * persons - 2)

    def test_all_small_rings(self):
        for ring in all_rings(10):
            self.check_ring(ring)

    def test_rings_in_any_order(self):
        chance = random.Random(15)
        for _ in range(400):
            persons = chance.choice((2, 3, 4, 5, 6, 8, 12))
            length = chance.randint(1, 24 // persons)
            dark = chance.randint(0, length) * persons
            beads = list("D" * dark + "L" * (length * persons - dark))
            chance.shuffle(beads)
            self.check_ring(as_strand(beads))

    def test_repeated_patterns(self):
        chance = random.Random(16)
        for many in range(2, 13):
            for _ in range(12):
                pattern = [chance.choice("DL") for _ in range(chance.randint(1, 24 // many))]
                self.check_ring(as_strand(pattern * many))
                self.assertGreater(count_straight(as_strand(pattern * many), many), 0)

    def test_shares_of_patterns_in_another_order(self):
        # Each third has the same numbers, but not the same order.
        chance = random.Random(17)
        for _ in range(60):
            pattern = [chance.choice("DL") for _ in range(chance.randint(2, 8))]
            beads = [bead for _ in range(3) for bead in chance.sample(pattern, len(pattern))]
            self.check_ring(as_strand(beads))
            self.assertEqual(fewest_cuts(as_strand(beads), 3), 3)


class FewestCuts(unittest.TestCase):
    def test_three_persons_cannot_do_with_fewer_cuts(self):
        for many in (3, 6, 9):
            ways = [(owners, cuts) for owners, cuts in divisions(many) if cuts <= 4]
            for dark in range(0, many + 1, 3):
                for places in itertools.combinations(range(many), dark):
                    ring = as_strand(["D" if place in places else "L" for place in range(many)])
                    fair = [cuts for owners, cuts in ways if is_fair([owners[place] for place in places])]
                    self.assertEqual(fewest_cuts(ring, 3), min(fair), ring)

    def test_share_needs_as_many_cuts_or_more(self):
        for ring in all_rings(9):
            for persons in (1, 2, 3):
                if divides(ring, persons):
                    self.assertGreaterEqual(count_cuts(ring, share(ring, *[1] * persons)), fewest_cuts(ring, persons))


class LargeRings(unittest.TestCase):
    def check_scaled(self, ring, persons, factor):
        """Between two places of the small ring all places of the large one are starts, if both are, or none is."""
        small = plain_straight(ring, persons)
        period = sum(count for _, count in ring) // persons
        large = scaled(ring, factor)
        # the indexes of the first and the last start of each stretch, and the starts
        expected = []
        many = 0
        for start in small:
            wide = (start + 1) % period in small
            expected.append((many, start * factor))
            many += factor if wide else 1
            expected.append((many - 1, start * factor + (factor - 1 if wide else 0)))
        self.assertEqual(within_steps(10 ** 5, count_straight, large, persons), many, (ring, persons))
        for index, start in expected:
            self.assertEqual(within_steps(10 ** 5, nth_straight, large, persons, index), start)
        for index in (-1, many, many + HUGE):
            self.assertRaises(InvalidIndex, nth_straight, large, persons, index)
        if persons == 3:
            self.assertEqual(fewest_cuts(large, 3), 3 if many else 4)

    def test_scaled_rings(self):
        chance = random.Random(18)
        for _ in range(60):
            persons = chance.choice((1, 2, 3, 4, 6))
            dark = chance.randint(0, 12 // persons) * persons
            beads = list("D" * dark + "L" * (24 // persons * persons - dark))
            chance.shuffle(beads)
            self.check_scaled(as_strand(beads), persons, 10 ** 31 + 7)

    def test_scaled_patterns(self):
        for pattern, many in (("DL", 12), ("DDL", 8), ("DLLLD", 4), ("DDLLDLDL", 3), ("LDDL", 6), ("DDDLLLDLDLLD", 2)):
            for persons in range(1, many + 1):
                if divides(as_strand(pattern * many), persons):
                    self.check_scaled(as_strand(pattern * many), persons, 10 ** 31 + 9)

    def test_large_rings_for_two(self):
        for ring in (scaled(LARGE, 2), scaled(LARGE[1:], 2), scaled(LARGE[:5], 2)):
            beads = sum(count for _, count in ring)
            dark = sum(count for colour, count in ring if colour == "D")
            many = within_steps(10 ** 5, count_straight, ring, 2)
            # Of the starts s and s + n / 2 one is below n / 2.
            self.assertEqual(2 * many, count_arcs(ring, beads // 2, dark // 2))
            self.assertEqual(fewest_cuts(ring, 2), 2)
            places = [within_steps(10 ** 5, nth_straight, ring, 2, k) for k in sorted({0, many // 2, many - 1})]
            self.assertEqual(places, sorted(places))
            for place in places:
                self.assertTrue(is_straight(ring, 2, place))

    def test_large_rings_for_three_and_more(self):
        # Three thirds with the same numbers: the last one in other runs than the first two.
        ring = (("D", 2 * HUGE + 5), ("L", 5 * HUGE), ("D", 2 * HUGE + 5), ("L", HUGE),
                ("D", HUGE), ("L", 3 * HUGE - 1), ("D", HUGE + 5), ("L", 1))
        self.assertGreater(count_straight(ring, 3), 0)
        self.assertEqual(nth_straight(ring, 3, 0), 0)
        for index in range(count_straight(ring, 3)):
            self.assertTrue(is_straight(ring, 3, nth_straight(ring, 3, index)))
        self.assertEqual(fewest_cuts(ring, 3), 3)
        self.assertEqual(fewest_cuts(scaled(NINE, HUGE), 3), 4)
        for persons in (3, 4, 5, 7, 24):
            self.assertEqual(count_straight(scaled(LARGE, persons), persons), 0)

    def test_all_places_for_one_person(self):
        for ring in (LARGE, LARGE[1:], (("D", HUGE),)):
            beads = sum(count for _, count in ring)
            self.assertEqual(within_steps(10 ** 5, count_straight, ring, 1), beads)
            for index in (0, 1, beads // 2, beads - 1):
                self.assertEqual(nth_straight(ring, 1, index), index)
            self.assertEqual(fewest_cuts(ring, 1), 0)

    def test_very_many_persons(self):
        persons = 10 ** 30 + 57
        for ring in (scaled(LARGE, persons), scaled(LARGE[1:], persons), (("D", persons), ("L", persons)),
                     (("D", persons), ("L", 6 * persons), ("D", persons)), scaled((("D", 1), ("L", 1)) * 12, persons)):
            self.assertEqual(within_steps(10 ** 5, count_straight, ring, persons), 0)
            for index in (0, 1, -1):
                self.assertRaises(InvalidIndex, within_steps, 10 ** 5, nth_straight, ring, persons, index)

    def test_very_many_persons_and_one_colour(self):
        persons = 10 ** 15 + 37
        for colour in "DL":
            for beads in (persons, 2 * persons, HUGE * persons):
                ring = ((colour, beads),)
                self.assertEqual(within_steps(10 ** 4, count_straight, ring, persons), beads // persons)
                for index in (0, beads // persons // 2, beads // persons - 1):
                    self.assertEqual(within_steps(10 ** 4, nth_straight, ring, persons, index), index)
                self.assertRaises(InvalidIndex, nth_straight, ring, persons, beads // persons)
                self.assertEqual(count_straight(ring, beads), 1)
                self.assertEqual(nth_straight(ring, beads, 0), 0)
            self.assertEqual(fewest_cuts(((colour, 3 * HUGE),), 3), 3)

    def test_more_persons_than_runs(self):
        for runs in range(2, 9):
            ring = tuple(("DL"[k % 2], 5040 * HUGE * (k + 1)) for k in range(runs))
            for persons in range(runs + 1, 11):
                self.assertEqual(count_straight(ring, persons), 0)


class Errors(unittest.TestCase):
    def test_count_straight(self):
        check_errors(self, count_straight, [RING, 2], [NOT_STRANDS, NOT_PERSONS], [InvalidStrand, InvalidPersons])

    def test_nth_straight(self):
        check_errors(self, nth_straight, [RING, 2, 0], [NOT_STRANDS, NOT_PERSONS, NOT_INTEGERS + [-1, 1, 2, HUGE]],
                     [InvalidStrand, InvalidPersons, InvalidIndex])

    def test_fewest_cuts(self):
        check_errors(self, fewest_cuts, [RING, 2], [NOT_STRANDS, NOT_PERSONS + [4, 5, 6, HUGE]],
                     [InvalidStrand, InvalidPersons])

    def test_not_divisible_comes_before_the_index(self):
        for ring, persons in ((RING, 3), (RING, 4), (RING, 5), (RING, 8), (RING, HUGE), (NINE, 9), (NINE, 2),
                              ((("D", 1), ("L", 1)), 2), ((("L", 5),), 10), (LARGE, 10 ** 40)):
            self.assertEqual(check_error(self, NotDivisible, count_straight, ring, persons).index, 0)
            for index in [0, 1] + NOT_INTEGERS:
                self.assertEqual(check_error(self, NotDivisible, nth_straight, ring, persons, index).index, 0)

    def test_not_divisible_of_fewest_cuts(self):
        for ring, persons in ((RING, 3), (NINE, 2), ((("D", 1), ("L", 1)), 2), ((("D", 1), ("L", 2)), 3),
                              ((("D", 3), ("L", 2)), 3), ((("D", 1),), 2), ((("L", HUGE),), 3)):
            self.assertEqual(check_error(self, NotDivisible, fewest_cuts, ring, persons).index, 0)

    def test_no_index_if_there_is_no_straight_share(self):
        for index in NOT_INTEGERS + [0, 1, -1]:
            check_error(self, InvalidIndex, nth_straight, NINE, 3, index)


class Interface(unittest.TestCase):
    def test_each_function_is_defined_in_its_file(self):
        for name in ("count_straight", "nth_straight", "fewest_cuts"):
            self.assertEqual(getattr(straight, name).__module__, "fairarcs.straight")
            self.assertEqual(getattr(straight, name).__name__, name)

    def test_arguments_by_position_and_by_name(self):
        for args in ((RING, 2), (RING, 1), (RING, 3), (RING, 0), ((), 2), (NINE, 3)):
            check_ways_to_pass(self, count_straight, ("ring", "persons"), args)
            check_ways_to_pass(self, fewest_cuts, ("ring", "persons"), args)
            check_ways_to_pass(self, nth_straight, ("ring", "persons", "index"), args + (0,))

    def test_the_kinds_of_the_results(self):
        self.assertIs(count_straight(RING, 2).__class__, int)
        self.assertIs(nth_straight(RING, 2, 0).__class__, int)
        for persons in (1, 3):
            self.assertIs(fewest_cuts(NINE, persons).__class__, int)

    def test_the_arguments_are_the_same_afterwards(self):
        ring = tuple(RING)
        count_straight(ring, 2)
        nth_straight(ring, 2, 0)
        fewest_cuts(ring, 2)
        self.assertEqual(ring, (("D", 2), ("L", 2)))

    def test_the_examples(self):
        self.assertEqual(count_straight((("D", 3), ("L", 6)), 3), 0)
        self.assertEqual(fewest_cuts((("D", 3), ("L", 6)), 3), 4)
        self.assertEqual(nth_straight((("D", 2), ("L", 2)), 2, 0), 1)


if __name__ == "__main__":
    unittest.main()
