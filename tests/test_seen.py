"""Points [17] and [18], and [1] to [6] for the functions of seen."""

import copy
import inspect
import itertools
import random
import unittest

from fairarcs import seen
from fairarcs.errors import Contradiction, InvalidNumber, InvalidSight, InvalidSights, InvalidStretch
from fairarcs.seen import contradiction, earliest_row, fits, latest_row, stretch_range
from fairarcs.strands import count_beads, dark_before, is_strand
from samples import (HUGE, NOT_INTEGERS, as_strand, check_error, check_errors, check_ways_to_pass, nested, outcome,
                     within_steps)

MANY = 10 ** 39
NOT_NUMBERS = NOT_INTEGERS + [0, -1, -HUGE]
# No sights of a row of 5 beads.
NOT_SIGHTS_OF_FIVE = [
    # other values than tuples of three
    None, True, False, 0, 3, 1.5, "", "0-3:1", b"", [], {}, {0, 3, 1}, range(3), object(), (), (0,), (0, 3),
    (0, 3, 1, 0), (0, 3, 1, None), [0, 3, 1], ((0, 3, 1),), (0, (3, 1)), ((0, 3), 1), (None, None, None), "abc",
    (0, 3, (1,)), nested(40, 1),
    # numbers of other kinds
    (None, 3, 1), (0, None, 1), (0, 3, None), (False, 3, 1), (0, True, 1), (0, 3, True), (0, 3, False), (0.0, 3, 1),
    (0, 3.0, 1), (0, 3, 1.0), ("0", 3, 1), (0, "3", 1), (0, 3, "1"), (0, 3, 1j), (0, float("inf"), 1),
    (0, 3, float("nan")), ([0], 3, 1), (0, [3], 1), (0, 3, [1]), ({}, {}, {}),
    # numbers outside
    (-1, 3, 1), (-HUGE, 3, 1), (0, 0, 0), (3, 3, 0), (5, 5, 0), (3, 2, 0), (5, 0, 1), (0, 6, 1), (0, HUGE, 1),
    (5, 6, 0), (6, 7, 0), (0, 3, -1), (0, 5, -HUGE), (0, -1, 0)]
NOT_LISTS = [None, True, False, 0, 1, 1.5, "", "0-3:1", b"", (), ((0, 3, 1),), (0, 3, 1), {}, {(0, 3, 1): 1},
             {(0, 3, 1)}, set(), frozenset(), range(3), list, object(), nested(40, 1)]
NOT_LISTS_OF_SIGHTS = NOT_LISTS + [[sight] for sight in NOT_SIGHTS_OF_FIVE]
# Start and end of no stretch of a row of 5 beads.
NOT_STRETCHES = [(start, 3) for start in NOT_INTEGERS + [-1, -HUGE, 4, 5, 6, HUGE]]
NOT_STRETCHES += [(2, end) for end in NOT_INTEGERS + [1, 0, -1, -HUGE, 6, HUGE]]
NOT_STRETCHES += [(6, 6), (5, 4), (HUGE, HUGE), (-1, -1), (None, None), (True, True), (False, False), ("0", "3")]


def darks(beads):
    """For each place the number of dark beads before it."""
    return [0] + list(itertools.accumulate(int(bead == "D") for bead in beads))


ROWS = {many: [darks(row) for row in itertools.product("DL", repeat=many)] for many in range(1, 9)}


def fitting(beads, sights):
    """All rows of few beads that fit, each as its numbers of dark beads before all places."""
    return [row for row in ROWS[beads] if all(row[end] - row[start] == dark for start, end, dark in sights)]


def way_sum(sights, way):
    """The sum along a closed way, as the document defines it."""
    total = 0
    for (index, forward), (following, onward) in zip(way, way[1:] + way[:1]):
        start, end, dark = sights[index]
        reached = end if forward else start
        begin = sights[following][0] if onward else sights[following][1]
        total += dark if forward else -dark
        total += max(0, begin - reached)
    return total


def random_sights(chance, beads, many, true_share):
    """So many sights; about true_share of them are true for one row."""
    row = chance.choice(ROWS[beads])
    found = []
    for _ in range(many):
        start = chance.randint(0, beads - 1)
        end = chance.randint(start + 1, beads)
        if chance.random() < true_share:
            found.append((start, end, row[end] - row[start]))
        else:
            found.append((start, end, chance.randint(0, end - start + 1)))
    return found


def small_cases():
    """Pairs of beads and sights: all with one sight, and many with more."""
    for beads in range(1, 9):
        yield beads, []
        for start, end in itertools.combinations(range(beads + 1), 2):
            for dark in range(end - start + 2):
                yield beads, [(start, end, dark)]
    chance = random.Random(17)
    for _ in range(3000):
        beads = chance.randint(1, 8)
        yield beads, random_sights(chance, beads, chance.randint(2, 7), chance.choice((0, 0.7, 0.9, 1)))


def two_sights():
    """All pairs of sights of four beads."""
    spans = list(itertools.combinations(range(5), 2))
    single = [(start, end, dark) for start, end in spans for dark in range(end - start + 2)]
    for first, second in itertools.product(single, repeat=2):
        yield 4, [first, second]


def large_sights(chance, many, gap):
    """Sights of a row of MANY beads, which is returned as its places and dark numbers, too."""
    places = sorted({0, MANY} | {chance.randint(0, MANY) for _ in range(15)} | {MANY // 2 + k for k in range(gap)})
    before = [0]
    for low, high in zip(places, places[1:]):
        before.append(before[-1] + chance.choice((0, high - low, chance.randint(0, high - low))))
    sights = []
    for _ in range(many):
        low, high = sorted(chance.sample(range(len(places)), 2))
        sights.append((places[low], places[high], before[high] - before[low]))
    return sights, places, before


class SmallRows(unittest.TestCase):
    def check_case(self, beads, sights):
        rows = fitting(beads, sights)
        self.assertIs(fits(beads, *sights), rows != [], (beads, sights))
        way = contradiction(beads, sights)
        if rows:
            self.assertIsNone(way, (beads, sights))
        else:
            self.check_way(sights, way)

    def check_way(self, sights, way):
        self.assertIs(way.__class__, list)
        self.assertGreater(len(way), 0)
        for step in way:
            self.assertIs(step.__class__, tuple)
            index, forward = step
            self.assertIs(index.__class__, int)
            self.assertIn(index, range(len(sights)))
            self.assertIn(forward, (True, False))
            self.assertIs(forward.__class__, bool)
        self.assertLess(way_sum(sights, way), 0, (sights, way))

    def test_fits_and_contradiction(self):
        for beads, sights in itertools.chain(small_cases(), two_sights()):
            self.check_case(beads, sights)

    def test_large_contradictions(self):
        chance = random.Random(18)
        for many in (1, 2, 3, 8, 20):
            for gap in (0, 3):
                for _ in range(6):
                    sights, _, _ = large_sights(chance, many, gap)
                    self.assertTrue(within_steps(10 ** 6, fits, MANY, *sights))
                    self.assertIsNone(within_steps(10 ** 6, contradiction, MANY, sights))
                    at = chance.randrange(many)
                    start, end, dark = sights[at]
                    sights[at] = (start, end, chance.choice((end - start + 1, max(0, dark - 1), dark + 1, 10 ** 40)))
                    way = within_steps(10 ** 6, contradiction, MANY, sights)
                    self.assertIs(fits(MANY, *sights), way is None)
                    if way is not None:
                        self.check_way(sights, way)
                    if sights[at][2] > end - start:
                        self.assertIsNotNone(way)

    def test_too_great_numbers(self):
        for sights in ([(0, 3, 4)], [(2, 3, 2)], [(0, MANY, MANY + 1)], [(0, 1, 10 ** 40)], [(1, MANY, MANY)]):
            self.assertFalse(fits(MANY, *sights))
            self.check_way(sights, contradiction(MANY, sights))
            behind = [(0, 3, 1)] + sights
            self.assertFalse(fits(MANY, *behind))
            self.check_way(behind, contradiction(MANY, behind))

    def test_the_same_sight_twice(self):
        self.assertTrue(fits(5, (0, 3, 1), (0, 3, 1)))
        self.assertIsNone(contradiction(5, [(0, 3, 1), (0, 3, 1)]))
        self.assertFalse(fits(5, (0, 3, 1), (0, 3, 2)))
        self.check_way([(0, 3, 1), (0, 3, 2)], contradiction(5, [(0, 3, 1), (0, 3, 2)]))

    def test_sights_one_behind_another(self):
        row = [(k * HUGE, (k + 1) * HUGE, k * 10 ** 28) for k in range(19)]
        all_dark = sum(dark for _, _, dark in row)
        self.assertIsNone(contradiction(20 * HUGE, row + [(0, 19 * HUGE, all_dark)]))
        for wrong in (all_dark - 1, all_dark + 1):
            sights = row + [(0, 19 * HUGE, wrong)]
            self.assertFalse(fits(20 * HUGE, *sights))
            self.check_way(sights, contradiction(20 * HUGE, sights))

    def test_no_sights(self):
        for beads in (1, 2, HUGE):
            self.assertTrue(fits(beads))
            self.assertIsNone(contradiction(beads, []))

    def test_scaled_sights_fit_as_the_small_ones(self):
        factor = 10 ** 38 + 3
        for beads, sights in itertools.islice(small_cases(), 200, None, 3):
            large = [(start * factor, end * factor, dark * factor) for start, end, dark in sights]
            rows = fitting(beads, sights)
            self.assertIs(fits(beads * factor, *large), rows != [])
            way = contradiction(beads * factor, large)
            if not rows:
                self.check_way(large, way)


class Ranges(unittest.TestCase):
    def check_rows(self, beads, sights, least, most):
        """Check the two rows against the numbers of dark beads before all places."""
        for function, numbers in ((latest_row, least), (earliest_row, most)):
            row = function(beads, sights)
            self.assertTrue(is_strand(row), row)
            self.assertEqual(row, as_strand("".join(colour * count for colour, count in row)))
            self.assertEqual([dark_before(row, place) for place in range(beads + 1)], numbers, (beads, sights))

    def test_small_rows(self):
        for beads, sights in itertools.islice(small_cases(), 0, None, 2):
            rows = fitting(beads, sights)
            if not rows:
                for args in ((0, beads), (0, 0)):
                    self.assertRaises(Contradiction, stretch_range, beads, sights, *args)
                self.assertRaises(Contradiction, latest_row, beads, sights)
                self.assertRaises(Contradiction, earliest_row, beads, sights)
                continue
            for start in range(beads + 1):
                for end in range(start, beads + 1):
                    numbers = sorted({row[end] - row[start] for row in rows})
                    self.assertEqual(numbers, list(range(numbers[0], numbers[-1] + 1)))
                    found = stretch_range(beads, sights, start, end)
                    self.assertEqual(found, (numbers[0], numbers[-1]), (beads, sights, start, end))
            columns = list(zip(*rows))
            self.check_rows(beads, sights, [min(column) for column in columns], [max(column) for column in columns])

    def test_scaled_rows(self):
        factor = 10 ** 38 + 3
        for beads, sights in itertools.islice(small_cases(), 300, None, 20):
            large = [(start * factor, end * factor, dark * factor) for start, end, dark in sights]
            if not fitting(beads, sights):
                check_error(self, Contradiction, stretch_range, beads * factor, large, 0, factor)
                continue
            for start in range(beads + 1):
                for end in range(start, beads + 1):
                    least, most = stretch_range(beads, sights, start, end)
                    found = stretch_range(beads * factor, large, start * factor, end * factor)
                    self.assertEqual(found, (least * factor, most * factor))

    def test_large_rows(self):
        chance = random.Random(19)
        for many in (0, 1, 5, 20):
            for gap in (0, 4):
                sights, places, before = large_sights(chance, many, gap)
                late = within_steps(10 ** 6, latest_row, MANY, sights)
                early = within_steps(10 ** 6, earliest_row, MANY, sights)
                for row in (late, early):
                    self.assertTrue(is_strand(row))
                    self.assertEqual(count_beads(row), MANY)
                    for start, end, dark in sights:
                        self.assertEqual(dark_before(row, end) - dark_before(row, start), dark)
                more = [chance.randint(0, MANY) for _ in range(5)]
                for place in places + more:
                    found = within_steps(10 ** 6, stretch_range, MANY, sights, 0, place)
                    self.assertEqual(found, (dark_before(late, place), dark_before(early, place)))
                for place, number in zip(places, before):
                    self.assertLessEqual(dark_before(late, place), number)
                    self.assertLessEqual(number, dark_before(early, place))

    def test_both_ends_of_a_range_are_reached(self):
        chance = random.Random(20)
        for many in (0, 1, 4, 19):
            sights, places, _ = large_sights(chance, many, 3)
            for _ in range(8):
                start, end = sorted(chance.sample(places + [chance.randint(0, MANY)], 2))
                least, most = stretch_range(MANY, sights, start, end)
                for dark in (least, most, (least + most) // 2):
                    self.assertTrue(fits(MANY, *sights, (start, end, dark)))
                self.assertFalse(fits(MANY, *sights, (start, end, most + 1)))
                if least > 0:
                    self.assertFalse(fits(MANY, *sights, (start, end, least - 1)))

    def test_no_sights(self):
        for beads in (1, 2, MANY):
            self.assertEqual(stretch_range(beads, [], 0, beads), (0, beads))
            self.assertEqual(latest_row(beads, []), (("L", beads),))
            self.assertEqual(earliest_row(beads, []), (("D", beads),))

    def test_a_stretch_without_beads(self):
        for sights in ([], [(0, 3, 1)], [(0, 3, 1), (2, 5, 0)]):
            for place in range(6):
                self.assertEqual(stretch_range(5, sights, place, place), (0, 0))

    def test_stretches_that_begin_or_end_inside_sights(self):
        sights = [(2 * HUGE, 6 * HUGE, HUGE), (5 * HUGE, 9 * HUGE, 4 * HUGE)]
        self.assertEqual(stretch_range(10 * HUGE, sights, 2 * HUGE, 5 * HUGE), (0, 0))
        self.assertEqual(stretch_range(10 * HUGE, sights, 3 * HUGE, 5 * HUGE + 7), (7, 7))
        self.assertEqual(stretch_range(10 * HUGE, sights, 1, 5 * HUGE), (0, 2 * HUGE - 1))
        self.assertEqual(stretch_range(10 * HUGE, sights, 8 * HUGE, 10 * HUGE), (HUGE, 2 * HUGE))
        single = [(2 * HUGE, 6 * HUGE, HUGE)]
        self.assertEqual(stretch_range(10 * HUGE, single, 3 * HUGE, 4 * HUGE), (0, HUGE))
        self.assertEqual(stretch_range(10 * HUGE, single, 2 * HUGE + 1, 6 * HUGE - 2), (HUGE - 3, HUGE))
        self.assertEqual(stretch_range(10 * HUGE, [(0, 4, 3)], 1, 3), (1, 2))

    def test_some_large_rows(self):
        sights = [(HUGE, 4 * HUGE, HUGE), (3 * HUGE, 5 * HUGE, 2 * HUGE)]
        self.assertEqual(latest_row(6 * HUGE, sights), (("L", 3 * HUGE), ("D", 2 * HUGE), ("L", HUGE)))
        self.assertEqual(earliest_row(6 * HUGE, sights),
                         (("D", HUGE), ("L", 2 * HUGE), ("D", 3 * HUGE)))


class Errors(unittest.TestCase):
    def test_fits(self):
        for value in NOT_NUMBERS:
            check_error(self, InvalidNumber, fits, value)
            check_error(self, InvalidNumber, fits, value, (0, 1, 0))
            check_error(self, InvalidNumber, fits, value, None)
        good = [(0, 3, 0), (1, 5, 4), (0, 5, 1)]
        for value in NOT_SIGHTS_OF_FIVE:
            check_error(self, InvalidSight, fits, 5, value)
            for at in range(4):
                check_error(self, InvalidSight, fits, 5, *good[:at], value, *good[at:])
        check_error(self, InvalidSight, fits, 5, [(0, 3, 0)])
        check_error(self, InvalidSight, fits, 5, *good * 2, (0, 6, 1))

    def test_contradiction_and_the_two_rows(self):
        for function in (contradiction, latest_row, earliest_row):
            check_errors(self, function, [5, [(0, 3, 1)]], [NOT_NUMBERS, NOT_LISTS_OF_SIGHTS],
                         [InvalidNumber, InvalidSights])

    def test_wrong_sights_at_every_place_of_the_list(self):
        # Other sights of the list contradict each other: that is found only afterwards.
        good = [(0, 3, 0), (1, 5, 4), (0, 5, 1)]
        for value in NOT_SIGHTS_OF_FIVE:
            for at in range(4):
                sights = good[:at] + [value] + good[at:]
                for function in (contradiction, latest_row, earliest_row):
                    check_error(self, InvalidSights, function, 5, sights)
                check_error(self, InvalidSights, stretch_range, 5, sights, 0, 5)

    def test_stretch_range(self):
        for value in NOT_NUMBERS:
            check_error(self, InvalidNumber, stretch_range, value, [(0, 3, 1)], 2, 3)
            check_error(self, InvalidNumber, stretch_range, value, None, None, None)
        for value in NOT_LISTS_OF_SIGHTS:
            check_error(self, InvalidSights, stretch_range, 5, value, 2, 3)
            check_error(self, InvalidSights, stretch_range, 5, value, 3, 2)
        for sights in ([], [(0, 3, 1)], [(0, 3, 0), (1, 5, 4)]):
            for start, end in NOT_STRETCHES:
                check_error(self, InvalidStretch, stretch_range, 5, sights, start, end)

    def test_a_contradiction_comes_last(self):
        for sights in ([(0, 3, 0), (1, 5, 4)], [(0, 3, 4)], [(1, 2, 0), (1, 2, 1)]):
            for start, end in ((0, 5), (2, 2), (0, 0), (5, 5)):
                check_error(self, Contradiction, stretch_range, 5, sights, start, end)
            check_error(self, Contradiction, latest_row, 5, sights)
            check_error(self, Contradiction, earliest_row, 5, sights)
            self.assertIs(fits(5, *sights), False)
            self.assertIsNotNone(contradiction(5, sights))

    def test_sights_that_are_wrong_for_this_number_of_beads_only(self):
        for beads in (1, 2):
            check_error(self, InvalidSight, fits, beads, (0, 3, 1))
            for function in (contradiction, latest_row, earliest_row):
                check_error(self, InvalidSights, function, beads, [(0, 3, 1)])


class Interface(unittest.TestCase):
    def test_each_function_is_defined_in_its_file(self):
        for name in ("fits", "contradiction", "stretch_range", "latest_row", "earliest_row"):
            self.assertEqual(getattr(seen, name).__module__, "fairarcs.seen")
            self.assertEqual(getattr(seen, name).__name__, name)

    def test_arguments_by_position_and_by_name(self):
        for args in ((5, [(0, 3, 1)]), (5, [(0, 3, 0), (1, 5, 4)]), (0, []), (5, None), (2, [(0, 3, 1)])):
            for function in (contradiction, latest_row, earliest_row):
                check_ways_to_pass(self, function, ("beads", "sights"), args)
            for stretch in ((2, 5), (2, 6), (3, 3)):
                check_ways_to_pass(self, stretch_range, ("beads", "sights", "start", "end"), args + stretch)

    def test_arguments_of_fits(self):
        self.assertEqual([parameter.kind.name for parameter in inspect.signature(fits).parameters.values()],
                         ["POSITIONAL_OR_KEYWORD", "VAR_POSITIONAL"])
        self.assertIs(fits(beads=5), True)
        for many in range(9):
            self.assertIs(fits(5, *[(0, 3, 1)] * many), True)
            self.assertIs(fits(5, *[(0, 3, 1)] * many, (0, 3, 2)), many == 0)

    def test_the_kinds_of_the_results(self):
        self.assertIs(fits(5).__class__, bool)
        self.assertIs(stretch_range(5, [], 0, 5).__class__, tuple)
        self.assertEqual([value.__class__ for value in stretch_range(5, [], 0, 5)], [int, int])
        for function in (latest_row, earliest_row):
            self.assertTrue(is_strand(function(5, [(0, 3, 1)])))

    def test_the_arguments_are_the_same_afterwards(self):
        for sights in ([(0, 3, 0), (1, 5, 4)], [(0, 3, 1), (2, 4, 1)], []):
            before = copy.deepcopy(sights)
            for function, more in ((contradiction, ()), (latest_row, ()), (earliest_row, ()), (stretch_range, (1, 4))):
                outcome(function, 5, sights, *more)
                self.assertEqual(sights, before)

    def test_each_returned_way_is_a_new_list(self):
        sights = [(0, 3, 0), (1, 5, 4)]
        first = contradiction(5, sights)
        second = contradiction(5, sights)
        self.assertEqual(first, second)
        self.assertIsNot(first, second)
        first.clear()
        self.assertEqual(contradiction(5, sights), second)

    def test_the_list_of_sights_may_be_changed_afterwards(self):
        sights = [(0, 3, 0), (1, 5, 4)]
        way = contradiction(5, sights)
        sights[0] = (0, 3, 3)
        self.assertEqual(way, [(0, True), (1, False)])
        self.assertIsNone(contradiction(5, sights))
        row = latest_row(5, sights)
        self.assertEqual(row, (("D", 5),))
        sights.clear()
        self.assertEqual(row, (("D", 5),))
        self.assertEqual(latest_row(5, sights), (("L", 5),))
        sights.append((0, 5, 6))
        check_error(self, Contradiction, earliest_row, 5, sights)

    def test_the_examples(self):
        self.assertEqual(fits(5, (0, 3, 0), (1, 5, 4)), False)
        self.assertEqual(contradiction(5, [(0, 3, 0), (1, 5, 4)]), [(0, True), (1, False)])
        self.assertEqual(stretch_range(5, [(0, 3, 1)], 2, 5), (0, 3))
        self.assertEqual(latest_row(5, [(0, 3, 1)]), (("L", 2), ("D", 1), ("L", 2)))
        self.assertEqual(earliest_row(5, [(0, 3, 1)]), (("D", 1), ("L", 2), ("D", 2)))


if __name__ == "__main__":
    unittest.main()
