"""Point [23], and [1] to [6] for the functions of texts."""

import copy
import itertools
import random
import re
import unittest

from fairarcs import texts
from fairarcs.errors import InvalidSights, InvalidStrand, InvalidText
from fairarcs.strands import is_strand
from fairarcs.texts import format_sights, format_strand, parse_sights, parse_strand
from samples import (ANY_DIGITS, HUGE, LARGE, NOT_INTEGERS, NOT_STRANDS, NOT_STRAND_TEXTS, NO_TEXTS, check_error,
                     check_errors, check_ways_to_pass, outcome, scaled, small_strands)

NOT_SIGHTS_TEXTS = [
    " ", "  ", "0", "0-3", "0-3:", "-3:1", "0-:1", ":1", "-", "-:", ":", "0:1", "3:1", "0-3-1", "0:3:1", "0:3-1",
    "0-3:1:2", "0-3-4:1", "0-3:1-2", "0--3:1", "0-3::1", "0 - 3 : 1", "0 -3:1", "0- 3:1", "0-3 :1", "0-3: 1", "0-3 1",
    " 0-3:1", "0-3:1 ", "0-3:1  1-5:4", "0-3:1 1-5:4 ", " 0-3:1 1-5:4", "0-3:1\t1-5:4", "0-3:1\n", "\n", "\t",
    "0-3:1,1-5:4", "0-3:1, 1-5:4", "0-3:1;1-5:4", "0-3:11-5:4", "[(0, 3, 1)]", "(0, 3, 1)", "0,3,1", "0 3 1",
    "00-3:1", "0-03:1", "0-3:01", "0-3:00", "01-3:1", "0-3:1 01-5:4", "+0-3:1", "0-+3:1", "0-3:+1", "-0-3:1",
    "0--3:-1", "0-3:-1", "0-3:-0", "-1-3:1", "0-0:0", "3-3:0", "3-2:0", "5-0:1", "0-3:1 4-4:0", "0-3:1 5-4:1",
    "0-3:1 1-5", "0-3:1 :4", "0-3:1 1-5:", "0-3:1 -5:4", "0-3:1 1-:4", "0-3:1 x", "x-3:1", "0-x:1", "0-3:x", "a-b:c",
    "0x0-3:1", "0-0x3:1", "0-3:1.0", "0.0-3:1", "0-3.:1", "0-1_0:1", "0-1e3:1", "0-3:1e0", "0-3:None", "0-3:True",
    "D1", "D1 L2", "0/3:1", "0-3=1", "0_3:1", "0\u20133:1", "0-3:1\u00a01-5:4", "0-3\uff1a1", "0-3:1\x00",
    ("0-3:1 " * 500), ("0-3:1 " * 500)[:-2], "0" * 3000, "1" * 3000, " " * 3000, "-" * 3000, ":" * 3000,
    "0-" + "0" * 2990 + "3:1", "0-3:" + "1" * 2990 + "x", "0-3:0" + "1" * 2990, "1" * 1500 + "-" + "1" * 1490 + ":1"]
NOT_SIGHTS_TEXTS += [f"0-3:{digit}" for digit in ANY_DIGITS] + [f"0-{digit}:0" for digit in ANY_DIGITS]
NOT_SIGHTS_TEXTS += [f"{digit}-3:1" for digit in ANY_DIGITS]
# Values that are no sights, whatever the number of beads.
NOT_SIGHTS = [None, True, 1, "", "0-3:1", (), (0,), (0, 3), (0, 3, 1, 0), [0, 3, 1], ((0, 3, 1),), (None, 3, 1),
              (0, None, 1), (0, 3, None), (False, 3, 1), (0, True, 1), (0, 3, True), (0.0, 3, 1), (0, 3.0, 1),
              (0, 3, 1.0), ("0", "3", "1"), (-1, 3, 1), (0, 0, 0), (3, 3, 0), (3, 2, 0), (0, 3, -1), (0, -1, 0), {}, [],
              range(3), object()]


class Strands(unittest.TestCase):
    def test_small_strands(self):
        for strand in small_strands(4, 3):
            text = " ".join(colour + str(count) for colour, count in strand)
            self.assertEqual(format_strand(strand), text)
            self.assertEqual(parse_strand(text), strand)

    def test_large_strands(self):
        for strand in (LARGE, LARGE[1:], (("D", HUGE),), (("L", 10),), (("D", 100), ("L", 12)),
                       (("D", 1), ("L", 23)) * 300, scaled(LARGE, 10 ** 40)):
            text = format_strand(strand)
            self.assertEqual(text, " ".join(colour + str(count) for colour, count in strand))
            self.assertEqual(parse_strand(text), strand)

    def test_numbers_of_very_many_digits(self):
        for digits in ("1" + "0" * 63, "1" + "0" * 64, "9" * 64, "9" * 65, "1" + "0" * 128, "12" * 1400, "7" * 2999,
                       "1" + "0" * 4000, "123" * 2000, "1" + "0" * 5000):
            strand = parse_strand("D" + digits)
            self.assertEqual(format_strand(strand), "D" + digits)
            value = strand[0][1]
            self.assertEqual(value % 10 ** 18, int(digits[-18:]))
            self.assertEqual(value // 10 ** (len(digits) - 18), int(digits[:18]))
            self.assertEqual(parse_sights(f"0-{digits}:{digits}"), [(0, value, value)])
            self.assertEqual(format_sights([(0, value, value)]), f"0-{digits}:{digits}")

    def test_changed_texts(self):
        # A text is that of a strand if it has this form and no neighbours of one colour.
        chance = random.Random(23)
        for _ in range(3000):
            text = list("D12 L3 D1 L20")
            for _ in range(chance.randint(1, 3)):
                at = chance.randrange(len(text))
                text[at] = chance.choice(["", text[at] + text[at], chance.choice("DLdl 0123-+:x")])
            text = "".join(text)
            form = re.fullmatch("[DL][1-9][0-9]*( [DL][1-9][0-9]*)*", text)
            colours = "".join(word[:1] for word in text.split(" "))
            if form and not re.search("DD|LL", colours):
                strand = parse_strand(text)
                self.assertTrue(is_strand(strand))
                self.assertEqual(format_strand(strand), text)
            else:
                self.assertRaises(InvalidText, parse_strand, text)


class Sights(unittest.TestCase):
    def test_small_sights(self):
        single = [(start, end, dark) for start in range(3) for end in range(start + 1, 4) for dark in range(3)]
        for many in (0, 1, 2):
            for sights in itertools.product(single, repeat=many):
                text = " ".join(f"{start}-{end}:{dark}" for start, end, dark in sights)
                self.assertEqual(format_sights(list(sights)), text)
                self.assertEqual(parse_sights(text), list(sights))

    def test_no_sights(self):
        self.assertEqual(format_sights([]), "")
        self.assertEqual(parse_sights(""), [])

    def test_large_sights(self):
        sights = [(k * HUGE, (k + 1) * 10 ** 31 + k, k * k * 10 ** 39) for k in range(20)]
        text = " ".join(f"{start}-{end}:{dark}" for start, end, dark in sights)
        self.assertEqual(format_sights(sights), text)
        self.assertEqual(parse_sights(text), sights)

    def test_sights_are_judged_by_their_form_alone(self):
        for sights in ([(0, 1, 2)], [(0, 3, HUGE)], [(5, 6, 7), (5, 6, 8)], [(0, 3, 0), (1, 5, 4)], [(0, 1, 0)] * 20):
            self.assertEqual(parse_sights(format_sights(sights)), sights)

    def test_changed_texts(self):
        chance = random.Random(24)
        for _ in range(3000):
            text = list("0-12:3 10-30:11")
            for _ in range(chance.randint(1, 3)):
                at = chance.randrange(len(text))
                text[at] = chance.choice(["", text[at] + text[at], chance.choice("0123-:+ .x")])
            text = "".join(text)
            number = "(0|[1-9][0-9]*)"
            form = re.fullmatch(f"{number}-{number}:{number}( {number}-{number}:{number})*", text)
            found = re.findall(f"{number}-{number}:{number}", text)
            if text == "" or form and all(int(start) < int(end) for start, end, _ in found):
                self.assertEqual(format_sights(parse_sights(text)), text)
                self.assertEqual(parse_sights(text), [tuple(map(int, sight)) for sight in found])
            else:
                self.assertRaises(InvalidText, parse_sights, text)


class Errors(unittest.TestCase):
    def test_format_strand(self):
        check_errors(self, format_strand, [LARGE], [NOT_STRANDS], [InvalidStrand])

    def test_format_sights(self):
        for value in NOT_INTEGERS + ["0-3:1", (0, 3, 1), ((0, 3, 1),), {(0, 3, 1): 1}, {(0, 3, 1)}]:
            if value != []:
                check_error(self, InvalidSights, format_sights, value)
        for value in NOT_SIGHTS:
            for at in range(3):
                sights = [(0, 3, 1), (1, 5, 4)]
                sights.insert(at, value)
                check_error(self, InvalidSights, format_sights, sights)
            check_error(self, InvalidSights, format_sights, [value])

    def test_parse_strand(self):
        for value in NO_TEXTS + NOT_STRAND_TEXTS:
            check_error(self, InvalidText, parse_strand, value)

    def test_parse_sights(self):
        for value in NO_TEXTS + NOT_SIGHTS_TEXTS:
            check_error(self, InvalidText, parse_sights, value)


class Interface(unittest.TestCase):
    def test_each_function_is_defined_in_its_file(self):
        for name in ("format_strand", "format_sights", "parse_strand", "parse_sights"):
            self.assertEqual(getattr(texts, name).__module__, "fairarcs.texts")
            self.assertEqual(getattr(texts, name).__name__, name)

    def test_arguments_by_position_and_by_name(self):
        for function, name, values in ((format_strand, "strand", (LARGE, ())),
                                       (format_sights, "sights", ([(0, 3, 1)], [], ())),
                                       (parse_strand, "text", ("D1 L2", "", None)),
                                       (parse_sights, "text", ("0-3:1", "", "x", None))):
            for value in values:
                check_ways_to_pass(self, function, (name,), (value,))

    def test_the_kinds_of_the_results(self):
        self.assertIs(format_strand(LARGE).__class__, str)
        self.assertIs(format_sights([(0, 3, 1)]).__class__, str)
        self.assertIs(format_sights([]).__class__, str)
        self.assertTrue(is_strand(parse_strand("D1 L2")))
        self.assertIs(parse_sights("0-3:1").__class__, list)
        self.assertEqual([value.__class__ for value in parse_sights("0-3:1")], [tuple])

    def test_the_arguments_are_the_same_afterwards(self):
        sights = [(0, 3, 1), (1, 5, 4)]
        before = copy.deepcopy(sights)
        format_sights(sights)
        self.assertEqual(sights, before)
        sights.append(None)
        self.assertIs(outcome(format_sights, sights), InvalidSights)
        self.assertEqual(sights, before + [None])

    def test_each_returned_list_is_a_new_one(self):
        for text in ("0-3:1 1-5:4", ""):
            first = parse_sights(text)
            second = parse_sights(text)
            self.assertIsNot(first, second)
            first.append(None)
            self.assertEqual(parse_sights(text), second)

    def test_the_examples(self):
        self.assertEqual(format_strand((("D", 3), ("L", 6))), "D3 L6")
        self.assertEqual(parse_sights("0-3:1 1-5:4"), [(0, 3, 1), (1, 5, 4)])


if __name__ == "__main__":
    unittest.main()
