"""Point [22], and [1] to [6] for the kinds of live rings."""

import inspect
import random
import unittest

from fairarcs import kinds
from fairarcs.errors import (InvalidArc, InvalidNumber, InvalidPlace, InvalidStrand, InvalidText, NothingToUndo,
                             TooManyTakes)
from fairarcs.kinds import LimitedRing, LimitedTolledRing, TolledRing
from fairarcs.live import LiveRing
from samples import (HUGE, LARGE, NOT_INTEGERS, NOT_STRANDS, NOT_STRAND_TEXTS, NO_TEXTS, as_strand, check_error,
                     check_errors, check_ways_to_pass, scaled)

NINE = (("D", 3), ("L", 6))
NOT_NUMBERS = NOT_INTEGERS + [-1, -2, -HUGE]
KINDS = (LimitedRing, TolledRing, LimitedTolledRing)


def state(live):
    due = live.due if isinstance(live, TolledRing) else None
    return live.now, live.bead_count, live.dark_count, live.told(), len(live), due


class Limits(unittest.TestCase):
    def test_as_many_takes_as_the_limit_allows(self):
        for kind in (LimitedRing, LimitedTolledRing):
            for limit in (0, 1, 2, 5, 7):
                live = kind(NINE, limit)
                for many in range(limit):
                    self.assertEqual(live.told()[-1], f"left {limit - many}")
                    self.assertEqual(live.take(0, 1), (("D" if many < 3 else "L", 1),))
                before = state(live)
                for start, length in ((0, 1), (1, 1)):
                    check_error(self, TooManyTakes, live.take, start, length)
                    check_error(self, TooManyTakes, live.try_takes, (start, length))
                    self.assertEqual(state(live), before)
                self.assertEqual(live.told()[-1], "left 0")

    def test_the_limit_is_five_if_none_is_given(self):
        for live in (LimitedRing(NINE), LimitedTolledRing(NINE), LimitedTolledRing(NINE, toll=3)):
            self.assertEqual(live.told()[-1], "left 5")
            for _ in range(5):
                live.take(0, 1)
            check_error(self, TooManyTakes, live.take, 0, 1)

    def test_an_invalid_arc_comes_first(self):
        for limit in (0, 1):
            live = LimitedRing(NINE, limit)
            for _ in range(limit):
                live.take(0, 1)
            before = state(live)
            for args in ((9, 1), (0, 9), (0, 0), (-1, 1), (None, None), (True, 1)):
                check_error(self, InvalidArc, live.take, *args)
                check_error(self, InvalidArc, live.try_takes, args)
            for value in (None, 5, (0,), [0, 1]):
                check_error(self, InvalidArc, live.try_takes, value)
            self.assertEqual(state(live), before)

    def test_put_does_not_change_the_number_of_arcs_that_are_out(self):
        live = LimitedRing(NINE, 2)
        live.put(0, (("L", 2),))
        live.take(0, 1)
        self.assertEqual(live.told()[-1], "left 1")
        live.put(3, (("D", 1),))
        live.put(0, (("D", 1),))
        self.assertEqual(live.told()[-1], "left 1")
        live.take(0, 1)
        check_error(self, TooManyTakes, live.take, 0, 1)
        live.put(0, NINE)
        check_error(self, TooManyTakes, live.take, 0, 1)
        # The put, a take, two puts: only the take makes room.
        self.assertEqual(live.undo(), "put")
        check_error(self, TooManyTakes, live.take, 0, 1)
        self.assertEqual(live.undo(), "take")
        self.assertEqual(live.told()[-1], "left 1")
        self.assertEqual((live.undo(), live.undo(), live.told()[-1]), ("put", "put", "left 1"))
        self.assertEqual((live.undo(), live.told()[-1]), ("take", "left 2"))
        self.assertEqual((live.undo(), live.told()[-1]), ("put", "left 2"))
        check_error(self, NothingToUndo, live.undo)

    def test_undo_of_a_take_allows_one_more(self):
        live = LimitedTolledRing(NINE, 1)
        for _ in range(3):
            live.take(0, 2)
            check_error(self, TooManyTakes, live.take, 0, 2)
            self.assertEqual(live.undo(), "take")
        self.assertEqual(state(live), state(LimitedTolledRing(NINE, 1)))

    def test_try_takes_counts_those_before(self):
        for kind in (LimitedRing, LimitedTolledRing):
            live = kind(NINE, 3)
            live.take(0, 1)
            before = state(live)
            self.assertEqual(live.try_takes((0, 1), (0, 1)), [(("D", 1),), (("D", 1),)])
            check_error(self, TooManyTakes, live.try_takes, (0, 1), (0, 1), (0, 1))
            # Each arc is judged when its turn comes, first as an arc and then for the limit.
            check_error(self, TooManyTakes, live.try_takes, (0, 1), (0, 1), (0, 1), None)
            check_error(self, InvalidArc, live.try_takes, (0, 1), (0, 1), None)
            check_error(self, InvalidArc, live.try_takes, (0, 1), None, (0, 1), (0, 1))
            check_error(self, InvalidArc, live.try_takes, (0, 1), (0, 1), (7, 1))
            self.assertEqual(live.try_takes(), [])
            self.assertEqual(state(live), before)
            self.assertEqual(kind(NINE, 0).try_takes(), [])

    def test_large_limits(self):
        live = LimitedRing(scaled(NINE, HUGE), 10 ** 40)
        live.take(HUGE, HUGE)
        self.assertEqual(live.told(), [f"beads {8 * HUGE}", f"dark {2 * HUGE}", f"left {10 ** 40 - 1}"])


class Tolls(unittest.TestCase):
    def test_due_after_takes_puts_and_undos(self):
        for live, toll in ((TolledRing(NINE, 7), 7), (TolledRing(NINE), 1), (TolledRing(NINE, 0), 0),
                           (LimitedTolledRing(NINE, 5, 4), 4), (LimitedTolledRing(NINE), 1),
                           (LimitedTolledRing(NINE, toll=10 ** 40), 10 ** 40)):
            self.assertEqual(live.due, 0)
            live.take(2, 3)
            self.assertEqual(live.due, 3 * toll)
            live.put(0, (("D", 4),))
            self.assertEqual(live.due, 3 * toll)
            live.take(8, 5)
            self.assertEqual(live.due, 8 * toll)
            live.try_takes((0, 1), (0, 2))
            check_error(self, InvalidArc, live.take, 0, 5)
            self.assertEqual(live.due, 8 * toll)
            self.assertEqual((live.undo(), live.due), ("take", 3 * toll))
            self.assertEqual((live.undo(), live.due), ("put", 3 * toll))
            self.assertEqual((live.undo(), live.due), ("take", 0))
            self.assertIs(live.due.__class__, int)

    def test_large_rings(self):
        live = TolledRing(LARGE, 10 ** 39)
        live.take(10 ** 31, 10 ** 32 + 1)
        self.assertEqual(live.due, 10 ** 71 + 10 ** 39)
        self.assertEqual(live.told()[-1], f"due {10 ** 71 + 10 ** 39}")

    def test_a_tolled_ring_has_no_limit(self):
        live = TolledRing((("D", 500), ("L", 500)))
        for many in range(800):
            self.assertEqual(live.due, many)
            live.take(0, 1)
        self.assertEqual(live.told(), ["beads 200", "dark 0", "due 800"])
        self.assertEqual(len(live.try_takes(*[(0, 20)] * 8)), 8)


class AllKinds(unittest.TestCase):
    def test_random_calls(self):
        chance = random.Random(22)
        for _ in range(60):
            limit = chance.randint(0, 6)
            toll = chance.randint(0, 9)
            strand = as_strand([chance.choice("DL") for _ in range(chance.randint(2, 20))])
            plain = LiveRing(strand)
            lives = [LimitedRing(strand, limit), TolledRing(strand, toll), LimitedTolledRing(strand, limit, toll)]
            lengths = []
            for _ in range(40):
                self.call_all(chance, plain, lives, lengths, limit)
                self.check_all(plain, lives, lengths, limit, toll)

    def call_all(self, chance, plain, lives, lengths, limit):
        word = chance.choice(["take", "take", "put", "undo"])
        out = sum(length > 0 for length in lengths)
        if word == "take" and plain.bead_count > 1:
            arc = (chance.randrange(plain.bead_count), chance.randint(1, plain.bead_count - 1))
            if out < limit:
                taken = plain.take(*arc)
                self.assertEqual([live.take(*arc) for live in lives], [taken] * 3)
                lengths.append(arc[1])
            else:
                check_error(self, TooManyTakes, lives[0].take, *arc)
                check_error(self, TooManyTakes, lives[2].take, *arc)
                lives[1].take(*arc)
                self.assertEqual(lives[1].undo(), "take")
        elif word == "put":
            place = chance.randrange(plain.bead_count)
            for live in [plain] + lives:
                self.assertIsNone(live.put(place, (("D", 2), ("L", 1))))
            lengths.append(0)
        elif word == "undo" and lengths:
            self.assertEqual(len({live.undo() for live in [plain] + lives}), 1)
            lengths.pop()

    def check_all(self, plain, lives, lengths, limit, toll):
        limited, tolled, both = lives
        due = toll * sum(lengths)
        left = limit - sum(length > 0 for length in lengths)
        for live in lives:
            self.assertEqual((live.now, live.bead_count, live.dark_count, len(live)),
                             (plain.now, plain.bead_count, plain.dark_count, len(plain)))
        self.assertEqual(limited.told(), plain.told() + [f"left {left}"])
        self.assertEqual(tolled.told(), plain.told() + [f"due {due}"])
        self.assertEqual(both.told(), plain.told() + [f"due {due}", f"left {left}"])
        self.assertEqual((tolled.due, both.due), (due, due))

    def test_told_of_each_kind(self):
        self.assertEqual(LimitedRing(NINE).told(), ["beads 9", "dark 3", "left 5"])
        self.assertEqual(TolledRing(NINE).told(), ["beads 9", "dark 3", "due 0"])
        self.assertEqual(LimitedTolledRing(NINE).told(), ["beads 9", "dark 3", "due 0", "left 5"])
        for kind in KINDS:
            live = kind(NINE)
            first = live.told()
            self.assertIsNot(first, live.told())
            first.clear()
            self.assertEqual(live.told(), kind(NINE).told())

    def test_read_uses_the_defaults(self):
        for kind in KINDS:
            for live in (kind.read("D3 L6"), kind.read(text="D3 L6"), kind(LARGE).read("D3 L6")):
                self.assertIs(live.__class__, kind)
                self.assertEqual(state(live), state(kind(NINE)))
                live.take(0, 2)
                changed = kind(NINE)
                changed.take(0, 2)
                self.assertEqual(state(live), state(changed))
            for value in NO_TEXTS + NOT_STRAND_TEXTS[::7]:
                check_error(self, InvalidText, kind.read, value)
        self.assertIs(LimitedRing(NINE, 2).read("D1").__class__, LimitedRing)
        self.assertEqual(LimitedTolledRing(NINE, 2, 7).read("D1").told(), ["beads 1", "dark 1", "due 0", "left 5"])

    def test_what_each_kind_has_of_a_live_ring(self):
        for kind in KINDS:
            live = kind(NINE)
            self.assertEqual((kind.COLOURS, live.COLOURS), (("D", "L"), ("D", "L")))
            self.assertIs(kind.is_valid(NINE), True)
            self.assertIs(live.is_valid("D3 L6"), False)
            live.take(2, 3)
            self.assertEqual(list(live.starts_now(3, 1)), [1, 4])
            check_error(self, InvalidPlace, live.put, 6, NINE)
            check_error(self, InvalidStrand, live.put, 5, ())
            self.assertEqual(len(live), 1)

    def test_the_limit_and_the_toll_are_those_of_each_object(self):
        first = LimitedTolledRing(NINE, 1, 2)
        second = LimitedTolledRing(NINE, 3, 5)
        first.take(0, 1)
        second.take(0, 2)
        self.assertEqual((first.told(), second.told()),
                         (["beads 8", "dark 2", "due 2", "left 0"], ["beads 7", "dark 1", "due 10", "left 2"]))


class Errors(unittest.TestCase):
    def test_the_constructors(self):
        check_errors(self, LimitedRing, [NINE, 2], [NOT_STRANDS, NOT_NUMBERS], [InvalidStrand, InvalidNumber])
        check_errors(self, TolledRing, [NINE, 2], [NOT_STRANDS, NOT_NUMBERS], [InvalidStrand, InvalidNumber])
        check_errors(self, LimitedTolledRing, [NINE, 2, 3], [NOT_STRANDS, NOT_NUMBERS, NOT_NUMBERS],
                     [InvalidStrand, InvalidNumber, InvalidNumber])
        for kind in KINDS:
            for value in NOT_STRANDS:
                check_error(self, InvalidStrand, kind, value)
        for value in NOT_NUMBERS:
            self.assertRaises(InvalidNumber, LimitedTolledRing, NINE, toll=value)


class Interface(unittest.TestCase):
    def test_each_class_is_defined_in_its_file_and_has_its_own_told(self):
        for kind in KINDS:
            self.assertEqual(kind.__module__, "fairarcs.kinds")
            self.assertIs(getattr(kinds, kind.__name__), kind)
            self.assertTrue(inspect.isfunction(vars(kind)["told"]))
        self.assertIsInstance(vars(TolledRing)["due"], property)

    def test_which_class_is_a_subclass_of_which(self):
        expected = {LimitedRing: {LimitedRing, LiveRing}, TolledRing: {TolledRing, LiveRing},
                    LimitedTolledRing: {LimitedTolledRing, LimitedRing, TolledRing, LiveRing},
                    LiveRing: {LiveRing}}
        for kind, above in expected.items():
            self.assertEqual({other for other in expected if issubclass(kind, other)}, above)
        self.assertFalse(hasattr(LimitedRing(NINE), "due"))
        self.assertFalse(hasattr(LiveRing(NINE), "due"))

    def test_arguments_by_position_and_by_name(self):
        for kind, names in ((LimitedRing, ("ring", "limit")), (TolledRing, ("ring", "toll")),
                            (LimitedTolledRing, ("ring", "limit", "toll"))):
            for values in ((NINE, 2, 3), (NINE, -1, 3), ((), 2, 3), (NINE, 0, 0)):
                # Only what a ring tells can be compared.
                check_ways_to_pass(self, self.telling(kind), names, values[:len(names)])
            parameters = inspect.signature(kind).parameters.values()
            self.assertEqual([parameter.name for parameter in parameters], list(names))
            defaults = [parameter.default for parameter in parameters][1:]
            self.assertEqual(defaults, [{"limit": 5, "toll": 1}[name] for name in names[1:]])

    def telling(self, kind):
        def told_after_a_take(*args, **named):
            live = kind(*args, **named)
            live.take(0, 2)
            return live.told()
        told_after_a_take.__signature__ = inspect.signature(kind)
        return told_after_a_take

    def test_the_example(self):
        live = LimitedTolledRing((("D", 3), ("L", 6)), limit=2, toll=4)
        self.assertEqual(live.take(2, 3), (("D", 1), ("L", 2)))
        self.assertEqual(live.told(), ["beads 6", "dark 2", "due 12", "left 1"])


if __name__ == "__main__":
    unittest.main()
