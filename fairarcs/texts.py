"""Texts: strands and sights as words with one space between them."""

from fairarcs.errors import InvalidSights, InvalidText
from fairarcs.integers import digits_of, number_of
from fairarcs.seen import is_sight
from fairarcs.strands import is_strand, require_strand


def words_of(text):
    """Return the list of the words of a text, or raise InvalidText if it is none."""
    if not isinstance(text, str):
        raise InvalidText("a text is a string")
    return text.split(" ")


def parse_number(word):
    """Return the number that a word writes, without a sign and leading zeros."""
    # isdigit alone would take the digits of other scripts, too.
    if not word.isascii() or not word.isdigit() or (len(word) > 1 and word[0] == "0"):
        raise InvalidText("a number is written with the digits 0 to 9, without leading zeros")
    return number_of(word)


def parse_sight(word):
    """Return the sight that a word writes."""
    span, _, dark = word.partition(":")
    start, _, end = span.partition("-")
    sight = (parse_number(start), parse_number(end), parse_number(dark))
    if not is_sight(sight):
        raise InvalidText("the start of a sight is below its end")
    return sight


def format_strand(strand):
    """Return the text of a strand."""
    require_strand(strand)
    return " ".join([f"{colour}{digits_of(count)}" for colour, count in strand])


def format_sights(sights):
    """Return the text of a list of sights; no sights are the empty string."""
    if not isinstance(sights, list) or not all([is_sight(sight) for sight in sights]):
        raise InvalidSights("the sights are not a list of tuples (start, end, dark)")
    return " ".join([f"{digits_of(start)}-{digits_of(end)}:{digits_of(dark)}" for start, end, dark in sights])


def parse_strand(text):
    """Return the strand that a text writes."""
    strand = tuple([(word[:1], parse_number(word[1:])) for word in words_of(text)])
    if not is_strand(strand):
        raise InvalidText("the runs that a text writes are not a strand")
    return strand


def parse_sights(text):
    """Return the list of the sights that a text writes."""
    words = words_of(text)
    if words == [""]:
        return []
    return [parse_sight(word) for word in words]
