"""Point [19], and [1] to [6] for the functions of turning."""

import inspect
import itertools
import random
import unittest

from fairarcs import turning
from fairarcs.errors import InvalidPlace, InvalidStrand
from fairarcs.strands import colour_at, count_beads, count_dark, is_strand
from fairarcs.turning import joined, mirrored, rotated, swapped, turn_between
from samples import (HUGE, LARGE, NOT_INTEGERS, NOT_STRANDS, all_rings, as_strand, check_error, check_errors,
                     check_ways_to_pass, plain, scaled, small_strands, some_places, within_steps)

RING = (("D", 2), ("L", 2))
LARGE_RINGS = [LARGE, LARGE[1:], LARGE[:1], LARGE[2:5], scaled((("D", 2), ("L", 1)) * 8, 10 ** 31 + 3)]


class Rotated(unittest.TestCase):
    def test_small_rings(self):
        for ring in all_rings(8):
            beads = plain(ring)
            for by in range(len(beads)):
                self.assertEqual(rotated(ring, by), as_strand(beads[by:] + beads[:by]), (ring, by))

    def test_large_rings(self):
        for ring in LARGE_RINGS:
            for by in some_places(ring):
                turned = within_steps(10 ** 4, rotated, ring, by)
                self.assertTrue(is_strand(turned))
                self.assertEqual((count_beads(turned), count_dark(turned)), (count_beads(ring), count_dark(ring)))
                for place in some_places(ring):
                    found = colour_at(turned, (place - by) % count_beads(ring))
                    self.assertEqual(found, colour_at(ring, place))
                self.assertEqual(rotated(turned, (-by) % count_beads(ring)), ring)

    def test_neighbouring_runs_become_one_run(self):
        self.assertEqual(rotated((("D", 1), ("L", 2), ("D", 3)), 3), (("D", 4), ("L", 2)))
        self.assertEqual(rotated((("D", 1), ("L", 2), ("D", 3)), 0), (("D", 1), ("L", 2), ("D", 3)))
        self.assertEqual(rotated((("D", HUGE),), 7), (("D", HUGE),))
        self.assertEqual(rotated((("D", HUGE), ("L", HUGE), ("D", HUGE)), HUGE + 1),
                         (("L", HUGE - 1), ("D", 2 * HUGE), ("L", 1)))


class MirroredAndSwapped(unittest.TestCase):
    def test_small_strands(self):
        for strand in all_rings(8):
            beads = plain(strand)
            self.assertEqual(mirrored(strand), as_strand(beads[::-1]))
            self.assertEqual(swapped(strand), as_strand([{"D": "L", "L": "D"}[bead] for bead in beads]))

    def test_large_strands(self):
        for strand in LARGE_RINGS:
            beads = count_beads(strand)
            self.assertTrue(is_strand(mirrored(strand)) and is_strand(swapped(strand)))
            self.assertEqual(count_beads(mirrored(strand)), beads)
            self.assertEqual(count_dark(swapped(strand)), beads - count_dark(strand))
            for place in some_places(strand):
                colour = colour_at(strand, place)
                self.assertEqual(colour_at(mirrored(strand), beads - 1 - place), colour)
                self.assertEqual(colour_at(swapped(strand), place), "L" if colour == "D" else "D")
            self.assertEqual(mirrored(mirrored(strand)), strand)
            self.assertEqual(swapped(swapped(strand)), strand)


class Joined(unittest.TestCase):
    def test_small_rows(self):
        rows = list(all_rings(4))
        for first, second in itertools.product(rows, repeat=2):
            self.assertEqual(joined(first, second), as_strand(plain(first) + plain(second)))
        for three in itertools.product(list(all_rings(2)), repeat=3):
            self.assertEqual(joined(*three), as_strand(sum([plain(row) for row in three], [])))

    def test_no_one_and_seven_further_rows(self):
        self.assertEqual(joined(RING), RING)
        self.assertEqual(joined(RING, RING), RING + RING)
        self.assertEqual(joined((("D", 1),), *[(("D", 2),)] * 7), (("D", 15),))
        self.assertEqual(joined(LARGE, *[LARGE] * 7), LARGE * 8)
        found = within_steps(10 ** 4, joined, LARGE, *[LARGE[1:]] * 7)
        self.assertTrue(is_strand(found))
        self.assertEqual(count_beads(found), count_beads(LARGE) + 7 * count_beads(LARGE[1:]))
        self.assertEqual(len(found), 24 + 7 * 22)
        self.assertEqual(found[23], ("L", LARGE[-1][1] + LARGE[1][1]))

    def test_large_rows(self):
        self.assertEqual(joined((("D", HUGE), ("L", 1)), (("L", HUGE),), (("L", 7), ("D", HUGE)), (("D", 1),)),
                         (("D", HUGE), ("L", HUGE + 8), ("D", HUGE + 1)))


class TurnBetween(unittest.TestCase):
    def test_all_pairs_of_small_rings_with_as_many_beads(self):
        for many in range(1, 7):
            rings = [as_strand(beads) for beads in itertools.product("DL", repeat=many)]
            for ring, other in itertools.product(rings, repeat=2):
                turns = [by for by in range(many) if rotated(ring, by) == other]
                self.assertEqual(turn_between(ring, other), turns[0] if turns else None, (ring, other))

    def test_other_numbers_of_beads(self):
        strands = list(small_strands(3, 2))
        for ring, other in itertools.product(strands, repeat=2):
            if count_beads(ring) != count_beads(other):
                self.assertIsNone(turn_between(ring, other))
        self.assertIsNone(turn_between(RING, RING + RING))
        self.assertIsNone(turn_between(RING + RING, RING))
        self.assertIsNone(turn_between((("D", 2),), (("D", 3),)))

    def test_rings_of_eight_and_more_beads(self):
        chance = random.Random(19)
        for _ in range(600):
            pattern = [chance.choice("DL") for _ in range(chance.randint(1, 6))]
            beads = pattern * chance.randint(1, 4)
            by = chance.randrange(len(beads))
            other = as_strand(beads[by:] + beads[:by])
            least = min(k for k in range(len(beads)) if beads[k:] + beads[:k] == plain(other))
            self.assertEqual(turn_between(as_strand(beads), other), least)

    def test_repeated_patterns(self):
        ring = scaled((("D", 1), ("L", 2)) * 12, HUGE)
        self.assertEqual(turn_between(ring, ring), 0)
        for by in (0, 1, HUGE - 1, HUGE, HUGE + 1, 3 * HUGE - 1):
            for more in (0, 3 * HUGE, 33 * HUGE):
                self.assertEqual(within_steps(10 ** 4, turn_between, ring, rotated(ring, by + more)), by)

    def test_rings_of_one_colour(self):
        for beads in (1, 2, HUGE):
            for colour in "DL":
                self.assertEqual(turn_between(((colour, beads),), ((colour, beads),)), 0)
            self.assertIsNone(turn_between((("D", beads),), (("L", beads),)))

    def test_large_rings(self):
        for ring in LARGE_RINGS[:4]:
            for by in some_places(ring):
                found = within_steps(10 ** 4, turn_between, ring, rotated(ring, by))
                self.assertEqual(found, by if len(ring) > 1 else 0)
            self.assertIsNone(turn_between(ring, swapped(ring)))
        for ring in LARGE_RINGS[:2]:
            self.assertIsNone(turn_between(ring, mirrored(ring)))
            self.assertIsNone(turn_between(ring, ring[:-1] + ((ring[-1][0], ring[-1][1] + 1),)))
            moved = ((ring[0][0], ring[0][1] + 1),) + ring[1:-1] + ((ring[-1][0], ring[-1][1] - 1),)
            self.assertEqual(turn_between(ring, moved), None if ring is LARGE else count_beads(ring) - 1)


class Errors(unittest.TestCase):
    def test_rotated(self):
        check_errors(self, rotated, [RING, 1], [NOT_STRANDS, NOT_INTEGERS + [-1, -HUGE, 4, 5, HUGE]],
                     [InvalidStrand, InvalidPlace])

    def test_mirrored_and_swapped(self):
        check_errors(self, mirrored, [RING], [NOT_STRANDS], [InvalidStrand])
        check_errors(self, swapped, [RING], [NOT_STRANDS], [InvalidStrand])

    def test_turn_between(self):
        check_errors(self, turn_between, [RING, RING], [NOT_STRANDS, NOT_STRANDS], [InvalidStrand, InvalidStrand])

    def test_joined(self):
        for value in NOT_STRANDS:
            check_error(self, InvalidStrand, joined, value)
            check_error(self, InvalidStrand, joined, value, RING)
            for at in range(7):
                rows = [RING] * 7
                rows[at] = value
                check_error(self, InvalidStrand, joined, RING, *rows)


class Interface(unittest.TestCase):
    def test_each_function_is_defined_in_its_file(self):
        for name in ("rotated", "mirrored", "swapped", "joined", "turn_between"):
            self.assertEqual(getattr(turning, name).__module__, "fairarcs.turning")
            self.assertEqual(getattr(turning, name).__name__, name)

    def test_arguments_by_position_and_by_name(self):
        for args in ((RING, 1), (RING, 4), ((), 0)):
            check_ways_to_pass(self, rotated, ("ring", "by"), args)
        for args in ((RING, rotated(RING, 1)), (RING, ()), ((), RING)):
            check_ways_to_pass(self, turn_between, ("ring", "other"), args)
        for strand in (LARGE, ()):
            check_ways_to_pass(self, mirrored, ("strand",), (strand,))
            check_ways_to_pass(self, swapped, ("strand",), (strand,))

    def test_arguments_of_joined(self):
        self.assertEqual([parameter.kind.name for parameter in inspect.signature(joined).parameters.values()],
                         ["POSITIONAL_OR_KEYWORD", "VAR_POSITIONAL"])
        self.assertEqual(joined(strand=RING), RING)

    def test_the_kinds_of_the_results(self):
        for strand in (rotated(RING, 1), rotated(RING, 0), mirrored(RING), swapped(RING), joined(RING),
                       joined(RING, RING)):
            self.assertIs(strand.__class__, tuple)
            self.assertTrue(is_strand(strand))
        self.assertIs(turn_between(RING, RING).__class__, int)

    def test_the_arguments_are_the_same_afterwards(self):
        ring = tuple(RING)
        other = (("L", 1), ("D", 2), ("L", 1))
        rotated(ring, 1)
        mirrored(ring)
        swapped(ring)
        joined(ring, other, ring)
        turn_between(ring, other)
        self.assertEqual((ring, other), ((("D", 2), ("L", 2)), (("L", 1), ("D", 2), ("L", 1))))

    def test_the_examples(self):
        self.assertEqual(rotated((("D", 2), ("L", 2)), 1), (("D", 1), ("L", 2), ("D", 1)))
        self.assertEqual(joined((("D", 2), ("L", 2)), (("L", 1),), (("D", 2), ("L", 2))),
                         (("D", 2), ("L", 3), ("D", 2), ("L", 2)))
        self.assertEqual(turn_between((("D", 2), ("L", 2)), (("L", 1), ("D", 2), ("L", 1))), 3)


if __name__ == "__main__":
    unittest.main()
