"""Points [13] and [14], and [1] to [6] for the functions of shares."""

import copy
import inspect
import random
import unittest

from fairarcs import shares
from fairarcs.arcs import dark_in
from fairarcs.counts import starts
from fairarcs.errors import InvalidShares, InvalidStrand, InvalidWeights, NotDivisible
from fairarcs.shares import count_cuts, share
from samples import (HUGE, NOT_INTEGERS, NOT_STRANDS, all_rings, as_strand, check_error, check_errors,
                     check_ways_to_pass, plain, scaled, within_steps)

RING = (("D", 2), ("L", 2))
NINE = (("D", 3), ("L", 6))
THREE = [[(2, 3)], [(1, 1), (5, 2)], [(7, 3)]]
WEIGHTS = ((1,), (5,), (1, 1), (2, 1), (1, 3), (4, 4), (6, 2), (1, 1, 1), (1, 2, 1), (3, 1, 2), (2, 2, 4),
           (1, 1, 1, 1), (3, 3, 3, 3), (2, 1, 1, 2))


def plain_owners(ring, weights):
    """The list of the owners of all beads by the rule of the document, bead by bead."""
    beads = plain(ring)
    owners = [len(weights) - 1] * len(beads)
    left = list(range(len(beads)))
    for person, weight in enumerate(weights[:-1]):
        length = len(beads) * weight // sum(weights)
        dark = beads.count("D") * weight // sum(weights)
        for start in range(len(left)):
            taken = [left[(start + k) % len(left)] for k in range(length)]
            if [beads[place] for place in taken].count("D") == dark:
                break
        for place in taken:
            owners[place] = person
        left = [place for place in left if place not in taken]
    return owners


def plain_parts(owners, person):
    """The parts of a person, as few as possible, in ascending order."""
    beads = len(owners)
    if owners == [person] * beads:
        return [(0, beads)]
    found = []
    for start in range(beads):
        if owners[start] == person and owners[start - 1] != person:
            length = 1
            while owners[(start + length) % beads] == person:
                length += 1
            found.append((start, length))
    return found


def first_not_divisible(ring, weights):
    """The index of the first weight for which a number is not an integer, or None."""
    beads = sum(count for _, count in ring)
    dark = sum(count for colour, count in ring if colour == "D")
    for index, weight in enumerate(weights):
        if beads * weight % sum(weights) or dark * weight % sum(weights):
            return index
    return None


def plain_cuts(owners):
    return sum(owners[place] != owners[place - 1] for place in range(len(owners)))


class Share(unittest.TestCase):
    def check_share(self, ring, weights):
        index = first_not_divisible(ring, weights)
        if index is not None:
            self.assertEqual(check_error(self, NotDivisible, share, ring, *weights).index, index)
            return
        owners = plain_owners(ring, weights)
        found = share(ring, *weights)
        self.assertEqual(found, [plain_parts(owners, person) for person in range(len(weights))], (ring, weights))
        self.assertEqual(count_cuts(ring, found), plain_cuts(owners))
        self.assertLessEqual(plain_cuts(owners), 2 * (len(weights) - 1))

    def test_all_rings_of_few_beads(self):
        for ring in all_rings(9):
            for weights in WEIGHTS:
                self.check_share(ring, weights)

    def test_some_rings_of_up_to_twenty_beads(self):
        chosen = random.Random(20)
        for weights in WEIGHTS:
            total = sum(weights)
            for beads in range(total, 21, total):
                for dark in range(0, beads + 1, total):
                    for _ in range(6):
                        ring = ["D"] * dark + ["L"] * (beads - dark)
                        chosen.shuffle(ring)
                        self.check_share(as_strand(ring), weights)

    def test_a_large_ring_is_like_the_small_one(self):
        for ring in all_rings(8):
            for weights in WEIGHTS:
                if first_not_divisible(ring, weights) is None:
                    large = [[(HUGE * start, HUGE * length) for start, length in parts]
                             for parts in share(ring, *weights)]
                    self.assertEqual(share(scaled(ring, HUGE), *weights), large)

    def large_rings(self):
        chosen = random.Random(30)
        for weights in ((1, 1), (1, 1, 1), (5, 3), (1, 2, 3, 4), (6, 10, 15, 30), (1,) * 8, (8, 7, 6, 5, 4, 3, 2, 1),
                        (10 ** 20, 1, 3), (2,) * 7):
            for digits in (3, 15, 30):
                ring = tuple(("DL"[k % 2], sum(weights) * chosen.randint(1, 10 ** digits // sum(weights) + 1))
                             for k in range(20))
                yield ring, weights
                yield ring[1:], weights

    def test_large_rings(self):
        for ring, weights in self.large_rings():
            beads = sum(count for _, count in ring)
            dark = sum(count for colour, count in ring if colour == "D")
            found = within_steps(10 ** 5, share, ring, *weights)
            self.assertEqual(len(found), len(weights))
            for parts, weight in zip(found, weights):
                self.assertEqual(sum(length for _, length in parts) * sum(weights), beads * weight)
                self.assertEqual(sum(dark_in(ring, *part) for part in parts) * sum(weights), dark * weight)
                self.assertEqual(parts, sorted(parts))
                ends = [(start + length) % beads for start, length in parts]
                self.assertFalse(set(ends) & {start for start, _ in parts}, "two parts could be one")
            first = next(starts(ring, beads * weights[0] // sum(weights), dark * weights[0] // sum(weights)))
            self.assertEqual(found[0], [(first, beads * weights[0] // sum(weights))])
            self.assertLessEqual(within_steps(10 ** 5, count_cuts, ring, found), 2 * (len(weights) - 1))

    def test_parts_that_go_around_over_place_0(self):
        self.assertEqual(share(NINE, 1, 2), [[(2, 3)], [(5, 6)]])
        self.assertEqual(share(NINE, 2, 1), [[(1, 6)], [(7, 3)]])
        self.assertEqual(share((("D", 3), ("L", 3), ("D", 3)), 2, 1), [[(4, 6)], [(1, 3)]])
        ring = (("D", 5), ("L", 4), ("D", 3))
        self.assertEqual(share(ring, 1, 2, 1), [[(3, 3)], [(7, 6)], [(1, 2), (6, 1)]])

    def test_one_person_has_the_whole_ring(self):
        for ring in (RING, NINE, (("L", 1),), (("D", HUGE),), (("L", HUGE), ("D", 1), ("L", HUGE))):
            for weight in (1, 2, 10 ** 40 - 1):
                self.assertEqual(share(ring, weight), [[(0, sum(count for _, count in ring))]])

    def test_each_result_is_a_new_list_of_new_lists(self):
        for ring, weights in ((NINE, (1,)), (RING, (1, 1)), (NINE, (2, 1)), (NINE, (1, 1, 1))):
            first = share(ring, *weights)
            second = share(ring, *weights)
            expected = copy.deepcopy(first)
            lists = [first, second] + first + second
            self.assertEqual(len({id(each) for each in lists}), len(lists))
            for parts in first:
                parts.clear()
            first.append("changed")
            self.assertEqual(second, expected)
            self.assertEqual(share(ring, *weights), expected)


class CountCuts(unittest.TestCase):
    def random_shares(self, chosen, beads, persons):
        """Shares whose parts are divided and mixed at will, and the owners of all beads."""
        turn = chosen.randrange(beads)
        lists = [[] for _ in range(persons)]
        owners = [None] * beads
        place = 0
        while place < beads:
            length = chosen.randint(1, beads - place)
            person = chosen.randrange(persons)
            start = (turn + place) % beads
            lists[person].append((start, length))
            for k in range(length):
                owners[(start + k) % beads] = person
            place += length
        for parts in lists:
            chosen.shuffle(parts)
        return [parts for parts in lists if parts], owners

    def test_the_owners_bead_by_bead(self):
        chosen = random.Random(40)
        for beads in range(1, 21):
            for _ in range(60):
                parts, owners = self.random_shares(chosen, beads, chosen.randint(1, 6))
                ring = as_strand([chosen.choice("DL") for _ in range(beads)])
                self.assertEqual(count_cuts(ring, parts), plain_cuts(owners), parts)

    def test_some_shares(self):
        for expected, value in ((0, [[(0, 9)]]), (0, [[(5, 9)]]), (0, [[(5, 4), (0, 5)]]), (0, [[(8, 2), (1, 7)]]),
                                (2, [[(0, 4)], [(4, 5)]]), (2, [[(7, 5)], [(3, 4)]]),
                                (2, [[(3, 1), (0, 2), (2, 1)], [(8, 1), (4, 4)]]),
                                (4, [[(0, 1), (4, 1)], [(5, 4), (1, 3)]]), (3, [[(8, 3)], [(2, 3)], [(5, 3)]]),
                                (9, [[(k, 1)] for k in range(9)]), (0, [[(k, 1) for k in range(9)]]), (4, THREE)):
            self.assertEqual(count_cuts(NINE, value), expected, value)
        self.assertEqual(count_cuts((("D", 1),), [[(0, 1)]]), 0)
        self.assertEqual(count_cuts((("D", 1), ("L", 1)), [[(1, 1)], [(0, 1)]]), 2)

    def test_large_shares(self):
        ring = (("D", HUGE), ("L", 2 * HUGE))
        self.assertEqual(count_cuts(ring, [[(3 * HUGE - 1, HUGE)], [(HUGE - 1, 2 * HUGE)]]), 2)
        self.assertEqual(count_cuts(ring, [[(3 * HUGE - 1, HUGE), (HUGE, 1)], [(HUGE + 1, 2 * HUGE - 2),
                                                                             (HUGE - 1, 1)]]), 4)
        check_error(self, InvalidShares, count_cuts, ring, [[(3 * HUGE - 1, HUGE)], [(HUGE, 2 * HUGE)]])
        check_error(self, InvalidShares, count_cuts, ring, [[(3 * HUGE - 1, HUGE)], [(HUGE - 1, 2 * HUGE - 1)]])
        check_error(self, InvalidShares, count_cuts, ring, [[(3 * HUGE - 1, HUGE)], [(HUGE - 2, 2 * HUGE)]])

    def test_the_same_list_after_a_change_of_it(self):
        value = [[(0, 4)], [(4, 5)]]
        self.assertEqual(count_cuts(NINE, value), 2)
        value[0].append((8, 1))
        check_error(self, InvalidShares, count_cuts, NINE, value)
        value[1][0] = (4, 4)
        self.assertEqual(count_cuts(NINE, value), 2)
        value[1] = [(4, 2)]
        value.append([(6, 2)])
        self.assertEqual(count_cuts(NINE, value), 3)
        value.clear()
        check_error(self, InvalidShares, count_cuts, NINE, value)


class Errors(unittest.TestCase):
    not_weights = NOT_INTEGERS + [0, -1, -HUGE, 10 ** 40 + 0.5]

    def test_wrong_strands(self):
        for value in NOT_STRANDS:
            check_error(self, InvalidStrand, share, value)
            check_error(self, InvalidStrand, share, value, 1, 1)
            check_error(self, InvalidStrand, share, value, 0, None)

    def test_wrong_weights(self):
        check_error(self, InvalidWeights, share, RING)
        for value in self.not_weights:
            for weights in ((value,), (value, 1), (1, value), (1, 1, value), (1, value, 1), (value, value),
                            (3, 5, value), ((1, 1), value)):
                check_error(self, InvalidWeights, share, RING, *weights)

    def test_the_index_of_the_first_weight_that_does_not_divide(self):
        for ring, weights, index in (
                (RING, (1, 1, 1), 0), (RING, (1, 3), 0), (RING, (2, 1, 1), 1), (RING, (2, 2, 2, 1, 1), 0),
                (RING, (4, 2, 2), 1), (NINE, (1, 1), 0), (NINE, (6, 2, 1), 1), (NINE, (3, 3, 1, 2), 2),
                ((("D", 2), ("L", 1)), (1, 1, 1), 0), ((("D", 4), ("L", 8)), (2, 1, 1, 4), 1),
                ((("D", 1), ("L", 3)), (2, 2), 0), ((("D", HUGE), ("L", HUGE)), (HUGE, 1, HUGE - 1), 1),
                ((("L", 6),), (2, 4), None), ((("L", 6),), (3, 1, 2), None), ((("L", 6),), (1, 3), 0)):
            if index is None:
                self.assertEqual(len(share(ring, *weights)), len(weights))
            else:
                self.assertEqual(first_not_divisible(ring, weights), index)
                self.assertEqual(check_error(self, NotDivisible, share, ring, *weights).index, index)

    def test_values_of_other_kinds_at_every_depth(self):
        for value in NOT_STRANDS + NOT_INTEGERS:
            for wrong in (value, [value], [[value]], [[(0, 9)], value], [[(0, 9)], [value]], [value, [(0, 9)]],
                          [[(0, 9), value]], [[value, (0, 9)]], [[(0, 9, value)]]):
                check_error(self, InvalidShares, count_cuts, NINE, wrong)
        for value in NOT_INTEGERS:
            for part in ((value, 9), (0, value), (value, value)):
                check_error(self, InvalidShares, count_cuts, NINE, [[part]])
                check_error(self, InvalidShares, count_cuts, NINE, [[(0, 9)], [part]])

    def test_shares_of_other_forms(self):
        for wrong in ([], [[]], [[(0, 9)], []], [[], [(0, 9)]], [[(0, 4)], [], [(4, 5)]], ([(0, 9)],), [((0, 9),)],
                      [[[0, 9]]], [(0, 9)], (0, 9), {0: [(0, 9)]}, [{(0, 9)}], [{(0, 9): 1}], [[(0, 9), None]],
                      [[(0,)]], [[(0, 9, 1)]], [[()]], [[((0, 9),)]], [[(0, (9,))]], [[("0", 9)]], [["09"]],
                      [[[(0, 9)]]], iter([[(0, 9)]]), [iter([(0, 9)])]):
            check_error(self, InvalidShares, count_cuts, NINE, wrong)

    def test_numbers_outside(self):
        for wrong in ((0, 0), (0, 10), (0, -9), (-1, 9), (9, 9), (9, 1), (10, 9), (HUGE, 9), (0, HUGE), (0, True),
                      (False, 9), (True, 9), (0.0, 9), (0, 9.0)):
            check_error(self, InvalidShares, count_cuts, NINE, [[wrong]])
            check_error(self, InvalidShares, count_cuts, NINE, [[(0, 9)], [wrong]])
            check_error(self, InvalidShares, count_cuts, NINE, [[(0, 4), wrong], [(4, 5)]])
        check_error(self, InvalidShares, count_cuts, (("D", 1), ("L", 1)), [[(False, True), (1, 1)]])
        check_error(self, InvalidShares, count_cuts, (("D", 1), ("L", 1)), [[(0, 1), (True, 1)]])

    def test_beads_left_out_or_covered_twice(self):
        for wrong in ([[(0, 8)]], [[(1, 8)]], [[(0, 4)], [(5, 4)]], [[(8, 8)]], [[(0, 9), (0, 9)]],
                      [[(0, 9)], [(3, 1)]], [[(0, 5)], [(4, 5)]], [[(0, 5)], [(0, 5)], [(5, 4)]], [[(0, 4)], [(0, 5)]],
                      [[(7, 4)], [(1, 5)], [(6, 2)]], [[(7, 3)], [(0, 7)]], [[(0, 3), (3, 3)], [(2, 3), (7, 1)]],
                      [[(4, 9)], [(8, 9)]], [[(0, 4)], [(3, 5)]], [[(8, 1)]]):
            check_error(self, InvalidShares, count_cuts, NINE, wrong)

    def test_count_cuts_checks_its_arguments_in_their_order(self):
        wrong = [NOT_STRANDS, [None, [], [[]], [[(0, 8)]], True]]
        check_errors(self, count_cuts, [NINE, THREE], wrong, [InvalidStrand, InvalidShares])


class Interface(unittest.TestCase):
    def test_each_function_is_defined_in_its_file(self):
        for name in ("share", "count_cuts"):
            self.assertEqual(getattr(shares, name).__module__, "fairarcs.shares")
            self.assertEqual(getattr(shares, name).__name__, name)

    def test_arguments_by_position_and_by_name(self):
        for args in ((NINE, THREE), (NINE, []), (None, THREE)):
            check_ways_to_pass(self, count_cuts, ("ring", "shares"), args)
        ring, weights = inspect.signature(share).parameters.values()
        self.assertEqual([ring.name, ring.kind], ["ring", ring.POSITIONAL_OR_KEYWORD])
        self.assertEqual([weights.name, weights.kind], ["weights", weights.VAR_POSITIONAL])
        with self.assertRaises(InvalidWeights):
            share(ring=RING)

    def test_the_kinds_of_the_results(self):
        self.assertIs(count_cuts(NINE, THREE).__class__, int)
        found = share(NINE, 1, 1, 1)
        self.assertIs(found.__class__, list)
        for parts in found:
            self.assertIs(parts.__class__, list)
            for part in parts:
                self.assertIs(part.__class__, tuple)
                self.assertEqual([number.__class__ for number in part], [int, int])

    def test_the_arguments_are_the_same_afterwards(self):
        value = [[(8, 1), (4, 4)], [(3, 1), (0, 3)]]
        before = copy.deepcopy(value)
        lists = [id(each) for each in value]
        count_cuts(NINE, value)
        self.assertEqual(value, before)
        self.assertEqual([id(each) for each in value], lists)

    def test_the_examples(self):
        self.assertEqual(share((("D", 2), ("L", 2)), 1, 1), [[(1, 2)], [(3, 2)]])
        self.assertEqual(share(NINE, 1, 1, 1), [[(2, 3)], [(1, 1), (5, 2)], [(7, 3)]])
        self.assertEqual(count_cuts(NINE, [[(2, 3)], [(1, 1), (5, 2)], [(7, 3)]]), 4)


if __name__ == "__main__":
    unittest.main()
