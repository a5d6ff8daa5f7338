"""The whole program: what its modules say of the same ring agrees, and all examples of the document hold."""

import doctest
import random
import unittest

from fairarcs.arcs import beads_of, dark_in, other_arc
from fairarcs.counts import count_arcs, nth_arc, starts
from fairarcs.kinds import LimitedTolledRing
from fairarcs.live import LiveRing
from fairarcs.ranges import dark_range, length_range
from fairarcs.rows import count_halvings, fewest_row_cuts, nth_halving
from fairarcs.seen import contradiction, earliest_row, fits, latest_row, stretch_range
from fairarcs.shares import count_cuts, share
from fairarcs.spreads import even_dark, is_even, widest
from fairarcs.straight import count_straight, fewest_cuts, nth_straight
from fairarcs.strands import colour_at, count_beads, count_dark, dark_before, dark_place, is_strand
from fairarcs.texts import format_sights, format_strand, parse_sights, parse_strand
from fairarcs.turning import joined, mirrored, rotated, swapped, turn_between
from samples import HUGE, LARGE, as_strand, scaled, some

EXAMPLES = """
>>> from fairarcs.strands import count_dark
>>> count_dark((("D", 2), ("L", 2)))
2
>>> from fairarcs.strands import dark_before
>>> dark_before((("D", 3), ("L", 6)), 5)
3
>>> from fairarcs.strands import dark_place
>>> dark_place((("L", 4), ("D", 2)), 1)
5
>>> from fairarcs.arcs import dark_in
>>> dark_in((("D", 2), ("L", 2)), 3, 3)
2
>>> from fairarcs.arcs import other_arc
>>> other_arc((("D", 2), ("L", 2)), 3, 3)
(2, 1)
>>> from fairarcs.arcs import beads_of
>>> list(beads_of((("D", 2), ("L", 2)), 3, 2))
['L', 'D']
>>> from fairarcs.ranges import dark_range
>>> dark_range((("D", 2), ("L", 2)), 2)
(0, 2)
>>> from fairarcs.ranges import length_range
>>> length_range((("D", 2), ("L", 2)), 1)
(1, 3)
>>> from fairarcs.counts import count_arcs
>>> count_arcs((("D", 2), ("L", 2)), 2, 1)
2
>>> from fairarcs.counts import nth_arc
>>> nth_arc((("D", 2), ("L", 2)), 2, 1, 1)
3
>>> from fairarcs.counts import starts
>>> list(starts((("D", 2), ("L", 2)), 2, 1))
[1, 3]
>>> from fairarcs.spreads import widest
>>> widest((("D", 2), ("L", 2)))
(2, 2, 0, 2)
>>> from fairarcs.spreads import is_even
>>> is_even((("D", 1), ("L", 2)))
True
>>> from fairarcs.spreads import even_dark
>>> even_dark(10, 4, 8, 3)
1
>>> from fairarcs.shares import share
>>> share((("D", 2), ("L", 2)), 1, 1)
[[(1, 2)], [(3, 2)]]
>>> from fairarcs.shares import share
>>> share((("D", 3), ("L", 6)), 1, 1, 1)
[[(2, 3)], [(1, 1), (5, 2)], [(7, 3)]]
>>> from fairarcs.shares import count_cuts
>>> count_cuts((("D", 3), ("L", 6)), [[(2, 3)], [(1, 1), (5, 2)], [(7, 3)]])
4
>>> from fairarcs.straight import count_straight
>>> count_straight((("D", 3), ("L", 6)), 3)
0
>>> from fairarcs.straight import fewest_cuts
>>> fewest_cuts((("D", 3), ("L", 6)), 3)
4
>>> from fairarcs.straight import nth_straight
>>> nth_straight((("D", 2), ("L", 2)), 2, 0)
1
>>> from fairarcs.rows import count_halvings
>>> count_halvings((("D", 2), ("L", 2)))
1
>>> from fairarcs.rows import nth_halving
>>> nth_halving((("D", 2), ("L", 2)), 0)
1
>>> from fairarcs.rows import fewest_row_cuts
>>> fewest_row_cuts((("D", 2), ("L", 2)))
2
>>> from fairarcs.seen import fits
>>> fits(5, (0, 3, 0), (1, 5, 4))
False
>>> from fairarcs.seen import contradiction
>>> contradiction(5, [(0, 3, 0), (1, 5, 4)])
[(0, True), (1, False)]
>>> from fairarcs.seen import stretch_range
>>> stretch_range(5, [(0, 3, 1)], 2, 5)
(0, 3)
>>> from fairarcs.seen import latest_row
>>> latest_row(5, [(0, 3, 1)])
(('L', 2), ('D', 1), ('L', 2))
>>> from fairarcs.seen import earliest_row
>>> earliest_row(5, [(0, 3, 1)])
(('D', 1), ('L', 2), ('D', 2))
>>> from fairarcs.turning import rotated
>>> rotated((("D", 2), ("L", 2)), 1)
(('D', 1), ('L', 2), ('D', 1))
>>> from fairarcs.turning import joined
>>> joined((("D", 2), ("L", 2)), (("L", 1),), (("D", 2), ("L", 2)))
(('D', 2), ('L', 3), ('D', 2), ('L', 2))
>>> from fairarcs.turning import turn_between
>>> turn_between((("D", 2), ("L", 2)), (("L", 1), ("D", 2), ("L", 1)))
3
>>> from fairarcs.live import LiveRing
>>> live = LiveRing((("D", 3), ("L", 6)))
>>> live.take(2, 3)
(('D', 1), ('L', 2))
>>> live.now
(('D', 2), ('L', 4))
>>> list(live.starts_now(3, 1))
[1, 4]
>>> from fairarcs.kinds import LimitedTolledRing
>>> live = LimitedTolledRing((("D", 3), ("L", 6)), limit=2, toll=4)
>>> live.take(2, 3)
(('D', 1), ('L', 2))
>>> live.told()
['beads 6', 'dark 2', 'due 12', 'left 1']
>>> from fairarcs.texts import format_strand
>>> format_strand((("D", 3), ("L", 6)))
'D3 L6'
>>> from fairarcs.texts import parse_sights
>>> parse_sights("0-3:1 1-5:4")
[(0, 3, 1), (1, 5, 4)]
"""


def sample_rings():
    """Small and large rings whose numbers of beads and dark beads are even."""
    chance = random.Random(6)
    for _ in range(20):
        beads = [chance.choice("DL") for _ in range(chance.randint(1, 12))]
        beads += chance.sample(beads, len(beads))
        yield as_strand(beads)
        yield scaled(as_strand(beads), 10 ** 30 + 57)
    for runs in (1, 2, 3, 8, 23, 24):
        yield tuple(("DL"[k % 2], 2 * chance.randint(1, 10 ** 31)) for k in range(runs))
    yield scaled(LARGE, 2)


def some_arcs(ring):
    """Some arcs of a ring."""
    beads = count_beads(ring)
    chance = random.Random(beads)
    places = [0, beads - 1, chance.randrange(beads), chance.randrange(beads)]
    lengths = [0, 1, beads // 2, beads, chance.randint(0, beads)]
    return [(start, length) for start in places for length in lengths]


class Examples(unittest.TestCase):
    def test_all_examples_of_the_document_together(self):
        test = doctest.DocTestParser().get_doctest(EXAMPLES, {}, "examples", None, None)
        found = doctest.DocTestRunner().run(test)
        self.assertEqual((found.failed, found.attempted), (0, len(test.examples)))
        self.assertEqual(len(test.examples), 75)


class OneRing(unittest.TestCase):
    def test_overview(self):
        # Point [6]: the numbers of dark beads are all integers between, and their mean is length * a / n.
        for ring in sample_rings():
            beads = count_beads(ring)
            known = []
            for _, length in some_arcs(ring):
                least, most = dark_range(ring, length)
                for dark in {least, most, (least + most) // 2, min(least + 1, most)}:
                    self.assertGreater(count_arcs(ring, length, dark), 0)
                    place = nth_arc(ring, length, dark, 0)
                    self.assertEqual(dark_in(ring, place, length), dark)
                    self.assertEqual(some(starts(ring, length, dark), 1), [place])
                    known.append((dark, length))
                self.assertEqual(count_arcs(ring, length, most + 1), 0)
                self.assertTrue(least * beads <= length * count_dark(ring) <= most * beads)
                if length * count_dark(ring) % beads == 0:
                    self.assertGreater(count_arcs(ring, length, length * count_dark(ring) // beads), 0)
            for dark, length in known[::9]:
                short, long = length_range(ring, dark)
                self.assertTrue(short <= length <= long)

    def test_arcs_and_strands(self):
        for ring in sample_rings():
            for start, length in some_arcs(ring):
                dark = dark_in(ring, start, length)
                turned = rotated(ring, start)
                self.assertEqual(dark_before(turned, length), dark)
                self.assertEqual(dark_in(ring, *other_arc(ring, start, length)), count_dark(ring) - dark)
                self.assertEqual(some(beads_of(ring, start, length), 3),
                                 [colour_at(turned, place) for place in range(min(3, length))])
                if dark > 0:
                    self.assertLess(dark_place(turned, dark - 1), length)

    def test_spreads(self):
        for ring in sample_rings():
            spread, length, start, other = widest(ring)
            least, most = dark_range(ring, length)
            self.assertEqual(most - least, spread)
            self.assertEqual((start, other), (nth_arc(ring, length, most, 0), nth_arc(ring, length, least, 0)))
            self.assertIs(is_even(ring), spread <= 1)
            for _, length in some_arcs(ring):
                least, most = dark_range(ring, length)
                self.assertLessEqual(most - least, spread)
                self.assertTrue(least <= even_dark(count_beads(ring), count_dark(ring), 0, length) <= most)

    def test_halves(self):
        for ring in sample_rings():
            half = count_beads(ring) // 2
            dark = count_dark(ring) // 2
            arcs = count_arcs(ring, half, dark)
            first = nth_arc(ring, half, dark, 0)
            self.assertEqual(count_straight(ring, 2) * 2, arcs)
            self.assertEqual(nth_straight(ring, 2, 0), first)
            self.assertEqual(nth_halving(ring, 0), first)
            self.assertEqual(count_halvings(ring), arcs // 2 + int(first == 0))
            self.assertEqual(fewest_row_cuts(ring), 1 if first == 0 else 2)
            self.assertEqual(fewest_cuts(ring, 2), 2)
            found = share(ring, 1, 1)
            self.assertEqual(found, [[(first, half)], [other_arc(ring, first, half)]])
            self.assertEqual(count_cuts(ring, found), 2)

    def test_shares_and_live_rings(self):
        for ring in sample_rings():
            for weights in ((1,), (1, 1), (1, 1, 2), (1, 2, 1), (1, 1, 1, 1)):
                if any(number % sum(weights) for number in (count_beads(ring), count_dark(ring))):
                    continue
                found = share(ring, *weights)
                self.assertLessEqual(count_cuts(ring, found), 2 * len(weights) - 2)
                live = LiveRing(ring)
                for parts, weight in zip(found[:-1], weights):
                    length = count_beads(ring) * weight // sum(weights)
                    place = next(live.starts_now(length, count_dark(ring) * weight // sum(weights)))
                    self.check_parts(ring, parts, live.take(place, length))
                self.check_parts(ring, found[-1], live.now)

    def check_parts(self, ring, parts, taken):
        """Check that some parts of a ring have the beads that were taken out, in the same order around."""
        rows = [LiveRing(joined(rotated(ring, start), (("D", 1),))).take(0, length) for start, length in parts]
        self.assertEqual(count_beads(joined(*rows)), count_beads(taken))
        self.assertIsNotNone(turn_between(taken, joined(*rows)))

    def test_straight_shares_need_no_more_cuts(self):
        for ring in sample_rings():
            ring = joined(ring, ring, ring)
            for persons in (1, 2, 3):
                if count_beads(ring) % persons == count_dark(ring) % persons == 0:
                    cuts = fewest_cuts(ring, persons)
                    self.assertLessEqual(cuts, count_cuts(ring, share(ring, *[1] * persons)))
                    length = count_beads(ring) // persons
                    place = nth_straight(ring, persons, 0)
                    parts = [[((place + k * length), length)] for k in range(persons)]
                    if persons == 1:
                        parts = [[(0, count_beads(ring))]]
                    self.assertEqual(count_cuts(ring, parts), cuts)

    def test_live_rings_of_all_kinds(self):
        for ring in sample_rings():
            live = LimitedTolledRing(ring, 2, 3)
            for start, length in some_arcs(ring):
                if 0 < length < count_beads(ring):
                    taken = live.take(start, length)
                    self.assertEqual(count_dark(taken), dark_in(ring, start, length))
                    self.assertEqual(live.due, 3 * length)
                    self.assertEqual(live.told()[2:], [f"due {3 * length}", "left 1"])
                    live.undo()
                    self.assertEqual(live.try_takes((start, length)), [taken])
                    self.assertEqual(live.now, ring)
                    self.assertEqual(LiveRing.read(format_strand(ring)).now, ring)


class Rows(unittest.TestCase):
    def test_a_row_fits_what_is_seen_of_it(self):
        chance = random.Random(12)
        for row in sample_rings():
            beads = count_beads(row)
            sights = []
            for _ in range(chance.randint(0, 8)):
                start = chance.randrange(beads)
                end = chance.randint(start + 1, beads)
                sights.append((start, end, dark_before(row, end) - dark_before(row, start)))
            self.assertTrue(fits(beads, *sights))
            self.assertIsNone(contradiction(beads, sights))
            self.assertEqual(parse_sights(format_sights(sights)), sights)
            late = latest_row(beads, sights)
            early = earliest_row(beads, sights)
            for other in (late, early):
                self.assertTrue(is_strand(other))
                self.assertEqual(parse_strand(format_strand(other)), other)
            for start, length in some_arcs(row):
                end = min(beads, start + length)
                least, most = stretch_range(beads, sights, start, end)
                for other in (row, late, early):
                    self.assertTrue(least <= dark_before(other, end) - dark_before(other, start) <= most)
                self.assertLessEqual(dark_before(late, start), dark_before(row, start))
                self.assertLessEqual(dark_before(row, start), dark_before(early, start))
            self.check_mirrored(row, sights, late, early)

    def check_mirrored(self, row, sights, late, early):
        beads = count_beads(row)
        turned = [(beads - end, beads - start, dark) for start, end, dark in sights]
        # From the other end the fewest dark beads before a place are the most ones behind it.
        if any(start == 0 and end == beads for start, end, _ in sights):
            self.assertEqual(mirrored(earliest_row(beads, turned)), late)
            self.assertEqual(mirrored(latest_row(beads, turned)), early)
        light = [(start, end, end - start - dark) for start, end, dark in sights]
        self.assertEqual(swapped(earliest_row(beads, light)), late)
        self.assertEqual(swapped(latest_row(beads, light)), early)

    def test_all_runs_are_seen(self):
        for row in sample_rings():
            begins = [sum(count for _, count in row[:k]) for k in range(len(row) + 1)]
            sights = [(low, high, high - low if colour == "D" else 0)
                      for low, high, (colour, _) in zip(begins, begins[1:], row)]
            self.assertEqual(latest_row(count_beads(row), sights), row)
            self.assertEqual(earliest_row(count_beads(row), sights), row)


class ChangedRings(unittest.TestCase):
    def test_rotated_rings(self):
        for ring in sample_rings():
            beads = count_beads(ring)
            for by, length in some_arcs(ring)[::3]:
                turned = rotated(ring, by)
                self.assertEqual(rotated(ring, turn_between(ring, turned)), turned)
                self.assertLessEqual(turn_between(ring, turned), by)
                self.assertEqual(widest(turned)[:2], widest(ring)[:2])
                for persons in (1, 2):
                    self.assertEqual(count_straight(turned, persons), count_straight(ring, persons))
                self.assertEqual(dark_range(turned, length), dark_range(ring, length))
                for dark in dark_range(ring, length):
                    self.assertEqual(count_arcs(turned, length, dark), count_arcs(ring, length, dark))
                    place = nth_arc(turned, length, dark, 0)
                    self.assertEqual(dark_in(ring, (place + by) % beads, length), dark)
            dark = count_dark(ring) // 3
            self.assertEqual(length_range(rotated(ring, beads // 3), dark), length_range(ring, dark))
            self.assertEqual(length_range(mirrored(ring), dark), length_range(ring, dark))

    def test_mirrored_rings(self):
        for ring in sample_rings():
            beads = count_beads(ring)
            turned = mirrored(ring)
            self.assertEqual(widest(turned)[:2], widest(ring)[:2])
            self.assertEqual(count_straight(turned, 2), count_straight(ring, 2))
            self.assertEqual(count_halvings(turned), count_halvings(ring))
            self.assertEqual(nth_halving(turned, count_halvings(ring) - 1), beads // 2 - nth_halving(ring, 0))
            for start, length in some_arcs(ring):
                self.assertEqual(dark_in(turned, (beads - start - length) % beads, length), dark_in(ring, start, length))
                self.assertEqual(dark_range(turned, length), dark_range(ring, length))
                for dark in dark_range(ring, length):
                    self.assertEqual(count_arcs(turned, length, dark), count_arcs(ring, length, dark))

    def test_rings_with_exchanged_colours(self):
        for ring in sample_rings():
            other = swapped(ring)
            spread, length, start, less = widest(ring)
            self.assertEqual(widest(other), (spread, length, less, start))
            self.assertEqual(count_straight(other, 2), count_straight(ring, 2))
            self.assertEqual(count_halvings(other), count_halvings(ring))
            self.assertEqual(share(other, 1, 1), share(ring, 1, 1))
            for start, length in some_arcs(ring):
                dark = dark_in(ring, start, length)
                self.assertEqual(dark_in(other, start, length), length - dark)
                least, most = dark_range(ring, length)
                self.assertEqual(dark_range(other, length), (length - most, length - least))
                self.assertEqual(count_arcs(other, length, length - dark), count_arcs(ring, length, dark))

    def test_repeated_rings(self):
        for ring in sample_rings():
            beads = count_beads(ring)
            all_dark = count_dark(ring)
            for many in (2, 3, 8):
                more = joined(ring, *[ring] * (many - 1))
                self.assertEqual((count_beads(more), count_dark(more)), (many * beads, many * all_dark))
                self.assertEqual(widest(more), widest(ring))
                self.assertIs(is_even(more), is_even(ring))
                # All places begin a straight share of so many persons as there are repeats.
                self.assertEqual(count_straight(more, many), beads)
                self.assertEqual(nth_straight(more, many, beads - 1), beads - 1)
                if many == 3:
                    self.assertEqual(fewest_cuts(more, 3), 3)
                self.assertLess(turn_between(more, rotated(more, beads * (many - 1) + beads // 2)), beads)
                for start, length in some_arcs(ring)[:8]:
                    for turns in (0, many - 1):
                        least, most = dark_range(ring, length)
                        found = dark_range(more, length + turns * beads)
                        self.assertEqual(found, (least + turns * all_dark, most + turns * all_dark))
                        self.assertEqual(count_arcs(more, length + turns * beads, most + turns * all_dark),
                                         many * count_arcs(ring, length, most))
                        self.assertEqual(dark_in(more, start + turns * beads, length), dark_in(ring, start, length))

    def test_live_rings_that_become_other_rings(self):
        chance = random.Random(14)
        for ring in sample_rings():
            live = LiveRing(ring)
            for _ in range(6):
                taken = live.take(0, live.bead_count // 2)
                live.put(chance.randrange(live.bead_count), mirrored(taken))
            self.assertEqual((live.bead_count, live.dark_count), (count_beads(ring), count_dark(ring)))
            now = live.now
            self.assertEqual(LiveRing(now).told(), live.told())
            self.assertEqual(some(beads_of(now, 1, live.bead_count), 9),
                             some(beads_of(rotated(now, 1), 0, live.bead_count), 9))
            half = count_beads(now) // 2
            self.assertEqual(some(live.starts_now(half, count_dark(now) // 2), 1), [nth_straight(now, 2, 0)])
            while len(live) > 0:
                live.undo()
            self.assertEqual(live.now, ring)


class Results(unittest.TestCase):
    def test_results_may_be_passed_back(self):
        for ring in (scaled(LARGE, 2), (("D", 2), ("L", 2)), scaled((("D", 1), ("L", 3)), HUGE)):
            beads = count_beads(ring)
            other = other_arc(ring, beads - 1, beads)
            self.assertEqual(other, (beads - 1, 0))
            self.assertEqual(other_arc(ring, *other), (beads - 1, beads))
            least, most = length_range(ring, count_dark(ring) // 3)
            self.assertEqual(dark_range(ring, least)[1], count_dark(ring) // 3)
            self.assertEqual(dark_range(ring, most)[0], count_dark(ring) // 3)
            large = joined(ring, *[mirrored(ring)] * 7)
            self.assertEqual(count_beads(large), 8 * beads)
            for value in (large, rotated(large, beads), swapped(large), LiveRing(large).try_takes((0, beads))[0]):
                self.assertTrue(is_strand(value))
                self.assertEqual(parse_strand(format_strand(value)), value)
                spread, length, start, less = widest(value)
                self.assertEqual(dark_in(value, start, length) - dark_in(value, less, length), spread)
            for parts in (share(large, 1), share(large, 1, 1), share(large, 1, 1, 2)):
                self.assertLessEqual(count_cuts(large, parts), 2 * len(parts) - 2)

    def test_changed_results_do_not_change_later_ones(self):
        ring = (("D", 3), ("L", 6))
        live = LimitedTolledRing(ring)
        calls = [lambda: share(ring, 1, 1, 1), lambda: contradiction(5, [(0, 3, 0), (1, 5, 4)]),
                 lambda: parse_sights("0-3:1 1-5:4"), lambda: parse_sights(""), live.told,
                 lambda: live.try_takes((0, 1), (2, 3)), lambda: live.try_takes()]
        for call in calls:
            first = call()
            expected = repr(first)
            second = call()
            self.assertIsNot(first, second)
            first.reverse()
            for value in first:
                if isinstance(value, list):
                    value.clear()
            first.append(None)
            self.assertEqual(repr(second), expected)
            self.assertEqual(repr(call()), expected)


if __name__ == "__main__":
    unittest.main()
