"""Writes the text of a told song."""

from choirtrue.ratios import ratio_text
from choirtrue.reading import BEND_UNWRITTEN, WEIGHT_UNWRITTEN


def written(song):
    """The text of a told song: its notes, its ties, its home."""
    notes, ties, home = song
    rows = [note_row(note) for note in notes] + [tie_row(tie) for tie in ties]
    if home is not None:
        rows.append(f"home {home[0]} {home[1]}")
    return "\n".join(rows)


def note_row(note):
    name, voice, start, end = note
    return f"note {name} {voice} {start} {end}"


def tie_row(tie):
    word, one, other, ratio, bend, weight = tie
    words = [word, one, other]
    if word != "held":
        words.append(ratio_text(ratio))
    # A weight is read only behind a bend, so it brings even the bend that is left out else.
    if bend != BEND_UNWRITTEN or weight != WEIGHT_UNWRITTEN:
        words.append(f"bend {bend}")
    if weight != WEIGHT_UNWRITTEN:
        words.append(f"weight {weight}")
    return " ".join(words)
