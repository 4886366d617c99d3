"""Parts a text into rows of words."""

from choirtrue.errors import BadSign

LETTERS = "abcdefghijklmnopqrstuvwxyz"
FIGURES = "0123456789"
TOLD_WORDS = ("note", "held", "pure", "home", "step", "bend", "weight")
MOST_SIGNS = 8000
MOST_LETTERS = 8
MOST_FIGURES = 5


def text_words(text):
    """The rows of a text, each a list of its words; BadSign."""
    if not isinstance(text, str) or len(text) > MOST_SIGNS:
        raise BadSign(0)
    rows = [[]]
    at = 0
    while at < len(text):
        piece = piece_at(text, at)
        if piece == "\n":
            rows.append([])
        elif piece != " ":
            if not is_word(piece):
                raise BadSign(at)
            rows[-1].append(piece)
        at += len(piece)
    return rows


def is_name(word):
    """Whether a str is a name: letters that are no told word."""
    return is_letters(word) and word not in TOLD_WORDS


def piece_at(text, at):
    """The letters or figures side by side that begin at a place, or the sign there."""
    for signs in (LETTERS, FIGURES):
        if text[at] in signs:
            return side_by_side(text, at, signs)
    return text[at]


def side_by_side(text, at, signs):
    """The longest piece of such signs that begins at a place."""
    end = at
    while end < len(text) and text[end] in signs:
        end += 1
    return text[at:end]


def is_word(piece):
    """Whether a piece of text is one word."""
    return piece == "/" or is_letters(piece) or is_number(piece)


def is_letters(piece):
    """Whether a piece is a word of letters."""
    return 1 <= len(piece) <= MOST_LETTERS and is_all_of(piece, LETTERS)


def is_number(piece):
    """Whether a piece is a word of figures."""
    if not 1 <= len(piece) <= MOST_FIGURES or not is_all_of(piece, FIGURES):
        return False
    return piece == "0" or piece[0] != "0"


def is_all_of(piece, signs):
    return all([sign in signs for sign in piece])
