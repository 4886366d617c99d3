"""Reads the text of a song."""

from choirtrue.errors import BadText
from choirtrue.ratios import is_product, ratio_of
from choirtrue.words import is_name, is_number, text_words

# Small letters and the mark stand for themselves, great ones for a kind of word.
SHAPES = {
    "note": ("note", "NAME", "NAME", "BEAT", "BEAT"),
    "held": ("held", "NAME", "NAME", "bend", "BEND", "weight", "WEIGHT"),
    "pure": ("pure", "NAME", "NAME", "PART", "/", "PART", "bend", "BEND", "weight", "WEIGHT"),
    "step": ("step", "NAME", "NAME", "PART", "/", "PART", "bend", "BEND", "weight", "WEIGHT"),
    "home": ("home", "NAME", "NAME"),
}
# A tie need not tell its bend, nor its weight behind it, so it ends in several places.
ENDS = {"note": (5,), "held": (3, 5, 7), "pure": (6, 8, 10), "step": (6, 8, 10), "home": (3,)}
BOUNDS = {"BEAT": (0, 9999), "PART": (1, 9999), "BEND": (0, 9999), "WEIGHT": (1, 9)}
TIE_WORDS = ("held", "pure", "step")
BEND_UNWRITTEN = 50
WEIGHT_UNWRITTEN = 1


def read(text):
    """The told song of a text; BadSign, BadText."""
    rows = text_words(text)
    for number, words in enumerate(rows):
        if words:
            need_row(words, number)
    filled = [words for words in rows if words]
    notes = [told_note(words) for words in filled if words[0] == "note"]
    ties = [told_tie(words) for words in filled if words[0] in TIE_WORDS]
    homes = [(words[1], words[2]) for words in filled if words[0] == "home"]
    return (tuple(notes), tuple(ties), homes[0] if homes else None)


def read_tie(words):
    """The told tie of a row's words; BadText, of row 0."""
    if not words or words[0] not in TIE_WORDS:
        raise BadText((0, 0))
    need_row(words, 0)
    return told_tie(words)


def need_row(words, number):
    """Refuses words that are no row, by the number that the row has."""
    at = wrong_word(words)
    if at is not None:
        raise BadText((number, at))


def wrong_word(words):
    """The number of the first word with which no row goes on, or None."""
    if words[0] not in SHAPES:
        return 0
    shape = SHAPES[words[0]]
    for at, word in enumerate(words):
        if at == len(shape) or not fits(word, shape[at]):
            return at
    return None if len(words) in ENDS[words[0]] else len(words)


def fits(word, kind):
    """Whether a word may stand where a row's shape has this kind."""
    if kind == "NAME":
        return is_name(word)
    if kind in BOUNDS:
        return is_number(word) and is_bounded(int(word), kind)
    return word == kind


def is_bounded(number, kind):
    low, high = BOUNDS[kind]
    return low <= number <= high and (kind != "PART" or is_product(number))


def told_note(words):
    return (words[1], words[2], int(words[3]), int(words[4]))


def told_tie(words):
    word, one, other = words[:3]
    ratio = (0, 0, 0, 0)
    if word != "held":
        ratio = ratio_of(int(words[3]), int(words[5]))
    bend = number_behind(words, "bend", BEND_UNWRITTEN)
    weight = number_behind(words, "weight", WEIGHT_UNWRITTEN)
    return (word, one, other, ratio, bend, weight)


def number_behind(words, mark, unwritten):
    """The number behind a told word, which is never a name, or what stands for it."""
    if mark in words:
        return int(words[words.index(mark) + 1])
    return unwritten
