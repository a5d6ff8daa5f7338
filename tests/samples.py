"""Values and helpers that several tests use."""

import inspect
import itertools
import sys

from fairarcs.errors import BeadError

# 24 runs; the counts have 32 digits and no common pattern.
LARGE = tuple(("DL"[k % 2], 10 ** 31 + 7 ** (k + 3)) for k in range(24))
HUGE = 10 ** 30

NOT_INTEGERS = [True, False, None, "", "0", "1", b"1", 0.0, 1.0, 1.5, 1j, (), (0,), (1,), [], [1], {}, {1: 1},
                {1}, frozenset(), range(2), int, object(), float("nan"), float("inf")]


def nested(depth, inner):
    for _ in range(depth):
        inner = (inner,)
    return inner


NOT_STRANDS = [
    # other values than tuples
    None, True, False, 0, 1, -1, 1.5, "", "D", "D1", "D1 L2", b"D", [], {}, set(), frozenset(), range(3), tuple,
    object(), float("nan"), {"D": 1}, {("D", 1)}, {("D", 1): ("L", 1)},
    # the empty tuple, and a run in place of a strand
    (), ("D", 1), ("D",), ("D", "L"), ("D1", "L2"),
    # lists in place of tuples
    [("D", 1)], [["D", 1]], (["D", 1],), (("D", 1), ["L", 1]), [("D", 1), ("L", 1)],
    # runs of other kinds
    (None,), (1,), ("DL",), ((),), (("D", 1), None), (("D", 1), ()), (("D", 1), "L1"), (("D", 1), "L"),
    ({"D": 1},), ({"D", 1},), (range(2),),
    # runs that are too short or too long
    (("D",),), ((1,),), (("D", 1, 1),), (("D", 1, "L", 1),), (("D", 1), ("L",)), (("D", 1), ("L", 2, 3)),
    (("D", 1, None), ("L", 2)),
    # other colours
    (("d", 1),), (("l", 1),), (("", 1),), (("DL", 1),), (("DD", 1),), (("B", 1),), ((b"D", 1),), ((68, 1),),
    ((0, 1),), ((True, 1),), ((None, 1),), ((("D",), 1),), ((["D"], 1),), ((1, "D"),), (("D", 1), ("l", 1)),
    (("D ", 1),), ((object(), 1),), (({}, 1),), ((float("nan"), 1),),
    # counts that are not integers from 1 on
    (("D", 0),), (("D", -1),), (("D", -HUGE),), (("D", True),), (("D", False),), (("D", None),), (("D", 1.0),),
    (("D", 2.5),), (("D", "1"),), (("D", "D"),), (("D", (1,)),), (("D", [1]),), (("D", {}),), (("D", 1j),),
    (("D", float("inf")),), (("D", 1), ("L", 0)), (("D", 1), ("L", True)), (("D", 1), ("L", 1), ("D", 0)),
    (("D", 0), ("L", 1)), (("D", False), ("L", 1)), (("D", b"1"),),
    # neighbouring runs of one colour
    (("D", 1), ("D", 1)), (("L", 2), ("L", 3)), (("D", 1), ("L", 1), ("L", 1)), (("L", 1), ("L", 1), ("D", 1)),
    (("D", 1), ("L", 2), ("D", 3), ("D", 4)),
    # nested deeper
    ((("D", 1),),), ((("D", 1), ("L", 1)),), (("D", 1), (("L", 1),)), nested(40, 1), nested(38, ("D", 1)),
    ((nested(36, "D"), 1),), (("D", nested(36, 1)),),
    # long ones with one fault
    (("D", 1), ("L", 1)) * 2000 + (("L", 1),), (("D", 1), ("L", 1)) * 2000 + (("D", 0),),
    (("D", 1),) + (("D", 1), ("L", 1)) * 2000, (("D", 1), ("L", 1)) * 2000 + (None,), (None,) * 4000,
]


NO_TEXTS = [None, True, False, 0, 1, 12, 1.5, b"", b"D1", b"D12 L3", b"0-3:1", (), ("D1",), (("D", 1),), [], ["D1"],
            ["0-3:1"], [(0, 3, 1)], {}, {"D1": 1}, {"D1"}, frozenset(), range(3), str, object(), bytearray(b"D1")]
# Digits of other scripts, and signs that look like digits.
ANY_DIGITS = ["\u0661", "\u0967", "\uff11", "\u00b2", "\u2460", "\u00bd"]
NOT_STRAND_TEXTS = [
    "", " ", "  ", "D", "L", "1", "12", "D ", " D1", "D1 ", "D1  L2", "D1 L2 ", " D1 L2", "D1\tL2", "D1\nL2", "D1\n",
    "\nD1", "D1,L2", "D1, L2", "D1L2", "D1 2", "D1 L", "D L2", "D1 L2 D", "D1 L2 3", "D 1", "D1 L 2",
    "d1", "l1", "d1 L2", "D1 l2", "B1", "A1", "X3", "DL1", "LD2", "DD1", "D1D", "1D", "D1 2L",
    "D0", "L0", "D00", "D1 L0", "D0 L1", "D01", "D1 L02", "D007", "D0x1", "D0b1", "D1_000", "D1e3", "D1.0", "D1.",
    "D.5", "D1,000", "D+1", "D-1", "D1-", "D--1", "D- 1", "D1 L-2", "D+1 L2", "D(1)", "D'1'", '"D1"', "('D', 1)",
    "((\"D\", 1),)", "D1:2", "D=1", "D:1", "D1/L2", "D1|L2", "D1;L2", "0-3:1", "DNone", "DTrue", "Dinf", "Dnan",
    "D1 D1", "L2 L2", "D1 L2 L3", "D1 D2 L3", "D1 L2 D3 D4", "D1 L1 " * 300, ("D1 L1 " * 300)[:-1] + " L1",
    ("D1 L1 " * 500)[:-1] + " ", ("D1 L1 " * 500)[:-2], "D" * 3000, "1" * 3000, " " * 3000, "D0" + "1" * 2998,
    "D" + "0" * 2999, "D1" + " L2" * 999, "D" + "1" * 2998 + "x", "x" * 3000, "D" + "0" * 9999, "D" + "1" * 9999 + "x",
    "D1\u00a0L2", "D\x001", "D1\x00", "\ufeffD1", "\u0414\u0031", "D1\u2028L2", "\u039b1"]
NOT_STRAND_TEXTS += ["D" + digit for digit in ANY_DIGITS] + ["D1" + digit for digit in ANY_DIGITS]


def small_strands(runs, greatest):
    """All strands of at most so many runs with counts of at most greatest."""
    for many in range(1, runs + 1):
        for counts in itertools.product(range(1, greatest + 1), repeat=many):
            for colours in ("DL" * many, "LD" * many):
                yield tuple(zip(colours, counts))


def plain(strand):
    """The list of the beads of a small strand."""
    return [colour for colour, count in strand for _ in range(count)]


def plain_arc(strand, start, length):
    """The list of the beads of an arc of a small ring."""
    beads = plain(strand)
    return [beads[(start + k) % len(beads)] for k in range(length)]


def all_rings(greatest):
    """All rings of at most so many beads."""
    for many in range(1, greatest + 1):
        for beads in itertools.product("DL", repeat=many):
            yield as_strand(beads)


def as_strand(beads):
    """The strand of some beads."""
    return tuple((colour, len(list(run))) for colour, run in itertools.groupby(beads))


def scaled(ring, factor):
    """The ring with so many beads in place of each one."""
    return tuple((colour, count * factor) for colour, count in ring)


def dark_table(ring):
    """For each length the list of d(start, length) of all places, counted bead by bead."""
    beads = plain(ring)
    return [[sum(beads[(start + k) % len(beads)] == "D" for k in range(length)) for start in range(len(beads))]
            for length in range(len(beads) + 1)]


def some_places(ring):
    """Some places of a ring: where runs begin, beside these, and others."""
    beads = sum(count for _, count in ring)
    begins = [0] + list(itertools.accumulate(count for _, count in ring))
    near = [begin + k for begin in begins for k in (-1, 0, 1)] + [beads // 2, beads // 3, beads - 7]
    return sorted({place for place in near if 0 <= place < beads})


def some(values, many):
    """The first values of a generator."""
    return list(itertools.islice(values, many))


def within_steps(limit, function, *args):
    """Call a function, but stop it if it executes more lines than limit."""
    left = [limit]

    def watch(frame, event, arg):
        left[0] -= 1
        if left[0] < 0:
            raise AssertionError("more than " + str(limit) + " steps")
        return watch

    before = sys.gettrace()
    sys.settrace(watch)
    try:
        return function(*args)
    finally:
        sys.settrace(before)


def outcome(function, *args, **named):
    """What a call returns (a generator: its values), or the class of its error."""
    try:
        answer = function(*args, **named)
        return list(answer) if inspect.isgenerator(answer) else answer
    except ValueError as error:
        return error.__class__


def check_ways_to_pass(case, function, names, args):
    """Check that each argument can be passed by position and by its name."""
    expected = outcome(function, *args)
    case.assertEqual(list(inspect.signature(function).parameters), list(names))
    for many in range(len(args) + 1):
        named = dict(zip(names[many:], args[many:]))
        case.assertEqual(outcome(function, *args[:many], **named), expected)
        turned = dict(reversed(list(named.items())))
        case.assertEqual(outcome(function, *args[:many], **turned), expected)


def check_error(case, error, function, *args):
    """Check the exact class of the error of a call (a generator is asked for its first value), and return the error."""
    with case.assertRaises(BeadError, msg=args) as caught:
        answer = function(*args)
        if inspect.isgenerator(answer):
            next(answer)
    case.assertIs(caught.exception.__class__, error, args)
    case.assertIsInstance(caught.exception, ValueError)
    return caught.exception


def check_errors(case, function, good, wrong, errors):
    """Check the error of each wrong value of each argument, also if all arguments behind it are wrong, too."""
    for k, values in enumerate(wrong):
        for value in values:
            check_error(case, errors[k], function, *good[:k], value, *good[k + 1:])
            behind = [others[0] for others in wrong[k + 1:]]
            check_error(case, errors[k], function, *good[:k], value, *behind)
