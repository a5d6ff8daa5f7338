"""Points [20] and [21], and [1] to [6] for live rings."""

import inspect
import random
import unittest

from fairarcs import live as module
from fairarcs.arcs import dark_in
from fairarcs.counts import starts
from fairarcs.errors import (InvalidArc, InvalidDark, InvalidLength, InvalidPlace, InvalidStrand, InvalidText,
                             NothingToUndo)
from fairarcs.live import LiveRing
from fairarcs.strands import colour_at, count_beads, count_dark, is_strand
from samples import (HUGE, LARGE, NOT_INTEGERS, NOT_STRANDS, NOT_STRAND_TEXTS, NO_TEXTS, all_rings, as_strand,
                     check_error, check_errors, check_ways_to_pass, plain, scaled, small_strands, some, some_places,
                     within_steps)

NINE = (("D", 3), ("L", 6))
# Values that are no arcs of a ring of nine beads from which some beads are left.
NOT_STARTS = NOT_INTEGERS + [-1, -HUGE, 9, 10, HUGE]
NOT_LENGTHS = NOT_INTEGERS + [0, -1, -HUGE, 9, 10, HUGE]
NOT_ARCS = [(start, 3) for start in NOT_STARTS] + [(2, length) for length in NOT_LENGTHS]
NOT_ARCS += [None, True, False, 0, 5, 1.5, "", "2,3", "23", b"23", [], [2, 3], {}, {2: 3}, {2, 3}, range(2, 4), object(),
             (), (2,), (2, 3, 1), (2, 3, None), ((2, 3),), ((2,), 3), (2, (3,)), (None, None), tuple, slice(2, 3)]


class PlainRing:
    """A live ring that keeps its beads in a list."""

    def __init__(self, beads):
        self.beads = list(beads)
        self.before = []

    def take(self, start, length):
        many = len(self.beads)
        places = [(start + k) % many for k in range(length)]
        taken = [self.beads[place] for place in places]
        self.before.append(("take", self.beads))
        self.beads = [self.beads[place] for place in range(many) if place not in places]
        return taken

    def put(self, place, row):
        self.before.append(("put", self.beads))
        self.beads = self.beads[:place] + list(row) + self.beads[place:]

    def undo(self):
        word, self.beads = self.before.pop()
        return word


def state(live):
    return live.now, live.bead_count, live.dark_count, live.told(), len(live)


def random_call(chance, live, model, factor, greatest):
    """Change both rings in the same way and return what both answered; the live one has factor beads for each one."""
    many = len(model.beads)
    words = ["put"] * (many < greatest) + ["take"] * (many > 1) + ["undo"] * (len(model.before) > 0)
    word = chance.choice(words)
    if word == "take":
        start = chance.randrange(many)
        length = chance.randint(1, min(many - 1, greatest // 3))
        taken = live.take(start * factor, length * factor)
        return taken, scaled(as_strand(model.take(start, length)), factor)
    if word == "put":
        place = chance.randrange(many)
        row = [chance.choice("DL") for _ in range(chance.randint(1, greatest // 3))]
        return live.put(place * factor, scaled(as_strand(row), factor)), model.put(place, row)
    return live.undo(), model.undo()


class Changes(unittest.TestCase):
    def check_state(self, live, model, factor):
        strand = scaled(as_strand(model.beads), factor)
        beads = len(model.beads) * factor
        dark = model.beads.count("D") * factor
        self.assertEqual(state(live), (strand, beads, dark, [f"beads {beads}", f"dark {dark}"], len(model.before)))

    def check_calls(self, ring, seed, calls, factor, greatest):
        chance = random.Random(seed)
        live = LiveRing(scaled(ring, factor))
        model = PlainRing(plain(ring))
        self.check_state(live, model, factor)
        for _ in range(calls):
            found, expected = random_call(chance, live, model, factor, greatest)
            self.assertEqual(found, expected)
            self.check_state(live, model, factor)
        while model.before:
            self.assertEqual(live.undo(), model.undo())
            self.check_state(live, model, factor)
        self.assertEqual(live.now, scaled(ring, factor))
        self.assertRaises(NothingToUndo, live.undo)

    def test_short_rows_of_calls(self):
        for seed, ring in enumerate(all_rings(4)):
            self.check_calls(ring, seed, 30, 1, 9)

    def test_long_rows_of_calls(self):
        for seed, ring in enumerate(((("D", 1),), NINE, (("D", 1), ("L", 1)) * 12, (("L", 20), ("D", 2), ("L", 20)))):
            self.check_calls(ring, seed, 800, 1, 60)
            self.check_calls(ring, seed, 800, 10 ** 31 + 7, 60)

    def test_each_arc_of_small_rings(self):
        for ring in all_rings(7):
            many = count_beads(ring)
            for start in range(many):
                for length in range(1, many):
                    live = LiveRing(ring)
                    model = PlainRing(plain(ring))
                    self.assertEqual(live.take(start, length), as_strand(model.take(start, length)))
                    self.check_state(live, model, 1)
                    self.assertEqual(live.undo(), "take")
                    self.assertEqual(state(live), state(LiveRing(ring)))

    def test_each_place_of_small_rings(self):
        rows = list(small_strands(2, 2))
        for ring in all_rings(4):
            for place in range(count_beads(ring)):
                for row in rows:
                    live = LiveRing(ring)
                    model = PlainRing(plain(ring))
                    self.assertIsNone(live.put(place, row))
                    model.put(place, plain(row))
                    self.check_state(live, model, 1)
                    self.assertEqual(live.undo(), "put")
                    self.assertEqual(state(live), state(LiveRing(ring)))

    def test_large_rings(self):
        chance = random.Random(20)
        for ring in (LARGE, LARGE[1:], LARGE[:2]):
            live = LiveRing(ring)
            for _ in range(40):
                before = live.now
                start = chance.randrange(live.bead_count)
                length = chance.randint(1, live.bead_count // 8)
                taken = within_steps(10 ** 4, live.take, start, length)
                self.check_taken(before, start, length, taken, live.now)
                if chance.random() < 0.5:
                    self.assertEqual(live.undo(), "take")
                    self.assertEqual(live.now, before)

    def check_taken(self, before, start, length, taken, left):
        self.assertTrue(is_strand(taken) and is_strand(left))
        self.assertEqual((count_beads(taken), count_dark(taken)), (length, dark_in(before, start, length)))
        self.assertEqual(count_beads(left), count_beads(before) - length)
        self.assertEqual(count_dark(left), count_dark(before) - count_dark(taken))
        around = max(0, start + length - count_beads(before))
        for place in some_places(before):
            colour = colour_at(before, place)
            offset = (place - start) % count_beads(before)
            if offset < length:
                self.assertEqual(colour_at(taken, offset), colour)
            elif place < start:
                self.assertEqual(colour_at(left, place - around), colour)
            else:
                self.assertEqual(colour_at(left, place - length), colour)

    def test_rows_that_are_put_into_large_rings(self):
        chance = random.Random(22)
        live = LiveRing(LARGE)
        for many, row in enumerate((LARGE[1:4], (("L", HUGE),), (("D", 1),), LARGE, LARGE[5:])):
            before = live.now
            self.assertEqual(len(live), many)
            for place in some_places(before)[::5] + [chance.randrange(live.bead_count)]:
                within_steps(10 ** 4, live.put, place, row)
                self.assertEqual(live.take(place, count_beads(row)), row)
                self.assertEqual(live.now, before)
                self.assertEqual((live.undo(), live.undo()), ("take", "put"))
            live.put(live.bead_count // 3, row)

    def test_a_row_that_is_put_where_it_was_taken(self):
        live = LiveRing(LARGE)
        taken = live.take(10 ** 31, 10 ** 32)
        live.put(10 ** 31, taken)
        self.assertEqual(live.now, LARGE)
        self.assertEqual((len(live), live.undo(), live.undo()), (2, "put", "take"))
        self.assertEqual(live.now, LARGE)

    def test_neighbouring_runs_become_one_run(self):
        live = LiveRing((("D", HUGE), ("L", HUGE), ("D", HUGE)))
        self.assertEqual(live.take(HUGE - 1, HUGE + 2), (("D", 1), ("L", HUGE), ("D", 1)))
        self.assertEqual(live.now, (("D", 2 * HUGE - 2),))
        live.put(5, (("D", 1), ("L", 7)))
        self.assertEqual(live.now, (("D", 6), ("L", 7), ("D", 2 * HUGE - 7)))
        live.put(7, (("L", 2),))
        self.assertEqual(live.now, (("D", 6), ("L", 9), ("D", 2 * HUGE - 7)))
        self.assertEqual(live.take(2 * HUGE, 5), (("D", 5),))
        live.put(0, (("L", 1), ("D", 3)))
        self.assertEqual(live.now, (("L", 1), ("D", 9), ("L", 9), ("D", 2 * HUGE - 12)))

    def test_all_but_one_bead(self):
        live = LiveRing(NINE)
        self.assertEqual(live.take(3, 8), (("L", 6), ("D", 2)))
        self.assertEqual(live.now, (("D", 1),))
        for start, length in ((0, 0), (0, 1), (0, 2), (1, 1)):
            check_error(self, InvalidArc, live.take, start, length)
        live.put(0, (("L", 2),))
        self.assertEqual(live.now, (("L", 2), ("D", 1)))


class Tries(unittest.TestCase):
    def test_the_same_strands_as_those_of_takes(self):
        chance = random.Random(21)
        for factor in (1, 10 ** 31 + 3):
            for _ in range(150):
                ring = as_strand([chance.choice("DL") for _ in range(chance.randint(2, 20))])
                live = LiveRing(scaled(ring, factor))
                other = LiveRing(scaled(ring, factor))
                arcs = []
                left = count_beads(ring)
                for _ in range(chance.randint(0, 8)):
                    if left > 1:
                        arcs.append((chance.randrange(left) * factor, chance.randint(1, left - 1) * factor))
                        left -= arcs[-1][1] // factor
                before = state(live)
                found = live.try_takes(*arcs)
                self.assertEqual(found, [other.take(*arc) for arc in arcs])
                self.assertEqual(state(live), before)

    def test_no_arcs(self):
        self.assertEqual(LiveRing(NINE).try_takes(), [])

    def test_an_error_half_way_changes_nothing(self):
        live = LiveRing(NINE)
        live.take(0, 1)
        live.put(2, (("D", 2),))
        live.take(8, 1)
        before = state(live)
        for value in NOT_ARCS:
            for arcs in ([value], [(2, 3), value], [(2, 3), (0, 1), value], [value, (2, 3)], [(2, 3), value, (2, 3)]):
                check_error(self, InvalidArc, live.try_takes, *arcs)
                self.assertEqual(state(live), before)
        self.assertEqual((live.undo(), live.undo(), live.undo()), ("take", "put", "take"))
        self.assertEqual(live.now, NINE)

    def test_each_arc_is_judged_when_its_turn_comes(self):
        live = LiveRing(NINE)
        for arcs in ([(8, 1), (8, 1)], [(0, 8), (0, 1)], [(2, 3), (0, 6)], [(2, 3), (6, 1)], [(0, 4), (0, 4), (0, 1)]):
            check_error(self, InvalidArc, live.try_takes, *arcs)
            self.assertEqual(len(live.try_takes(*arcs[:-1])), len(arcs) - 1)
        self.assertEqual(live.try_takes((8, 1), (7, 1)), [(("L", 1),), (("L", 1),)])

    def test_each_returned_list_is_a_new_one(self):
        live = LiveRing(NINE)
        first = live.try_takes((2, 3))
        second = live.try_takes((2, 3))
        self.assertIsNot(first, second)
        first.clear()
        self.assertEqual(live.try_takes((2, 3)), second)
        self.assertIsNot(live.told(), live.told())
        told = live.told()
        told.clear()
        self.assertEqual(live.told(), ["beads 9", "dark 3"])


class Starts(unittest.TestCase):
    def test_the_places_of_the_ring_as_it_is(self):
        live = LiveRing(NINE)
        live.take(2, 3)
        live.put(1, (("L", 1), ("D", 1)))
        for length in range(live.bead_count + 1):
            for dark in range(length + 2):
                self.assertEqual(list(live.starts_now(length, dark)), list(starts(live.now, length, dark)))

    def test_the_ring_counts_when_the_first_value_is_asked_for(self):
        live = LiveRing(NINE)
        early = live.starts_now(3, 1)
        wrong = live.starts_now(9, 3)
        late = live.starts_now(10, 6)
        live.take(2, 3)
        self.assertEqual(list(early), [1, 4])
        self.assertRaises(InvalidLength, next, wrong)
        live.put(0, (("D", 4),))
        self.assertEqual(list(late), list(range(10)))
        live.undo()
        live.undo()
        self.assertEqual(list(live.starts_now(3, 1)), list(starts(NINE, 3, 1)))

    def test_two_generators_in_turn(self):
        live = LiveRing((("D", HUGE), ("L", HUGE)))
        first = live.starts_now(1, 1)
        second = live.starts_now(1, 0)
        third = live.starts_now(1, 1)
        turns = [(next(first), next(second), next(third)) for _ in range(3)]
        self.assertEqual(turns, [(0, HUGE, 0), (1, HUGE + 1, 1), (2, HUGE + 2, 2)])
        live.take(0, HUGE)
        self.assertEqual(some(live.starts_now(2, 0), 3), [0, 1, 2])

    def test_errors(self):
        live = LiveRing(NINE)
        check_errors(self, live.starts_now, [3, 1], [NOT_INTEGERS + [-1, 10, HUGE], NOT_INTEGERS + [-1, -HUGE]],
                     [InvalidLength, InvalidDark])
        for args in ((None, 1), (3, None), (10, 1), (3, -1)):
            live.starts_now(*args)
        self.assertEqual(list(live.starts_now(3, 10 ** 40)), [])
        self.assertEqual(state(live), state(LiveRing(NINE)))


class Errors(unittest.TestCase):
    def setUp(self):
        self.live = LiveRing((("D", 5), ("L", 6)))
        self.live.take(0, 2)

    def check_no_change(self):
        self.assertEqual(state(self.live), (NINE, 9, 3, ["beads 9", "dark 3"], 1))

    def test_the_constructor_and_is_valid(self):
        for value in NOT_STRANDS:
            check_error(self, InvalidStrand, LiveRing, value)
            self.assertIs(LiveRing.is_valid(value), False)
            self.assertIs(self.live.is_valid(value), False)

    def test_take(self):
        check_errors(self, self.live.take, [2, 3], [NOT_STARTS, NOT_LENGTHS], [InvalidArc, InvalidArc])
        self.check_no_change()

    def test_put(self):
        check_errors(self, self.live.put, [2, NINE], [NOT_STARTS, NOT_STRANDS], [InvalidPlace, InvalidStrand])
        self.check_no_change()

    def test_undo(self):
        self.assertEqual(self.live.undo(), "take")
        before = state(self.live)
        for _ in range(3):
            check_error(self, NothingToUndo, self.live.undo)
            self.assertEqual(state(self.live), before)
        check_error(self, NothingToUndo, LiveRing(NINE).undo)

    def test_read(self):
        for value in NO_TEXTS + NOT_STRAND_TEXTS:
            check_error(self, InvalidText, LiveRing.read, value)
        check_error(self, InvalidText, self.live.read, "D1 D2")
        self.check_no_change()

    def test_an_error_between_other_calls(self):
        live = self.live
        for value in NOT_ARCS[:3]:
            check_error(self, InvalidArc, live.take, *value)
            check_error(self, InvalidPlace, live.put, value, NINE)
        self.assertEqual(live.take(2, 3), (("D", 1), ("L", 2)))
        check_error(self, InvalidArc, live.take, 6, 1)
        check_error(self, InvalidStrand, live.put, 5, ())
        self.assertEqual((live.undo(), live.undo(), live.now), ("take", "take", (("D", 5), ("L", 6))))


class Interface(unittest.TestCase):
    def test_the_class_and_what_it_defines_itself(self):
        self.assertEqual(LiveRing.__module__, "fairarcs.live")
        self.assertIs(module.LiveRing, LiveRing)
        found = vars(LiveRing)
        for name in ("take", "put", "undo", "try_takes", "told", "starts_now", "__len__", "__init__"):
            self.assertTrue(inspect.isfunction(found[name]), name)
        for name in ("now", "bead_count", "dark_count"):
            self.assertIsInstance(found[name], property)
        self.assertIsInstance(found["read"], classmethod)
        self.assertIsInstance(found["is_valid"], staticmethod)

    def test_colours(self):
        self.assertEqual(LiveRing.COLOURS, ("D", "L"))
        self.assertEqual(LiveRing(NINE).COLOURS, ("D", "L"))
        self.assertIs(LiveRing.COLOURS.__class__, tuple)

    def test_read_and_is_valid(self):
        for live in (LiveRing.read("D3 L6"), LiveRing.read(text="D3 L6"), LiveRing((("D", 1),)).read("D3 L6")):
            self.assertIs(live.__class__, LiveRing)
            self.assertEqual(state(live), (NINE, 9, 3, ["beads 9", "dark 3"], 0))
        for value in (NINE, LARGE, (("D", 1),)):
            self.assertIs(LiveRing.is_valid(value), True)
            self.assertIs(LiveRing.is_valid(value=value), True)
            self.assertIs(LiveRing(NINE).is_valid(value), True)

    def test_arguments_by_position_and_by_name(self):
        for args in ((2, 3), (9, 1), (0, 9)):
            check_ways_to_pass(self, lambda start, length: LiveRing(NINE).take(start=start, length=length),
                               ("start", "length"), args)
            self.assertEqual(list(inspect.signature(LiveRing(NINE).take).parameters), ["start", "length"])
        live = LiveRing(ring=NINE)
        self.assertEqual(live.take(2, length=3), (("D", 1), ("L", 2)))
        self.assertEqual(live.take(length=3, start=2), (("L", 3),))
        self.assertIsNone(live.put(0, row=(("L", 1),)))
        self.assertIsNone(live.put(row=(("L", 1),), place=0))
        self.assertEqual(live.now, (("L", 2), ("D", 2), ("L", 1)))
        self.assertEqual(list(inspect.signature(live.put).parameters), ["place", "row"])
        for args in ((1, 1), (2, 0), (6, 0), (1, -1)):
            check_ways_to_pass(self, live.starts_now, ("length", "dark"), args)
        self.assertEqual([parameter.kind.name for parameter in inspect.signature(live.try_takes).parameters.values()],
                         ["VAR_POSITIONAL"])

    def test_the_kinds_of_the_results(self):
        live = LiveRing(NINE)
        self.assertTrue(is_strand(live.take(2, 3)))
        self.assertIsNone(live.put(0, (("L", 1),)))
        self.assertIs(live.undo().__class__, str)
        self.assertIs(live.try_takes((0, 1)).__class__, list)
        self.assertIs(live.told().__class__, list)
        self.assertTrue(inspect.isgenerator(live.starts_now(1, 1)))
        for value in (len(live), live.bead_count, live.dark_count, next(live.starts_now(1, 1))):
            self.assertIs(value.__class__, int)

    def test_the_arguments_are_the_same_afterwards(self):
        ring = tuple(NINE)
        row = (("L", 1), ("D", 1))
        arc = (0, 2)
        live = LiveRing(ring)
        live.take(2, 3)
        live.put(1, row)
        live.try_takes(arc, arc)
        self.assertEqual((ring, row, arc), ((("D", 3), ("L", 6)), (("L", 1), ("D", 1)), (0, 2)))

    def test_objects_do_not_share_anything(self):
        first = LiveRing(NINE)
        second = LiveRing(NINE)
        first.take(2, 3)
        self.assertEqual(state(second), state(LiveRing(NINE)))
        second.put(0, (("D", 1),))
        self.assertEqual((len(first), len(second), first.bead_count, second.bead_count), (1, 1, 6, 10))

    def test_the_examples(self):
        live = LiveRing((("D", 3), ("L", 6)))
        self.assertEqual(live.take(2, 3), (("D", 1), ("L", 2)))
        self.assertEqual(live.now, (("D", 2), ("L", 4)))
        self.assertEqual(list(live.starts_now(3, 1)), [1, 4])


if __name__ == "__main__":
    unittest.main()
