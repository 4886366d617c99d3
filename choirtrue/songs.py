"""Which songs may be, and which of their notes hang together."""

from choirtrue.errors import BadSong

MOST_NOTES = 40
MOST_TIES = 80


def need_song(song):
    """Refuses a told song for the first thing in it that is wrong; BadSong."""
    notes, ties, home = song
    for number, note in enumerate(notes):
        if number >= MOST_NOTES or not may_stand_behind(note, notes[:number]):
            raise BadSong(("note", number))
    named = {note[0]: note for note in notes}
    for number, tie in enumerate(ties):
        if number >= MOST_TIES or not may_tie(tie, named):
            raise BadSong(("tie", number))
    if home is not None and not are_two(home[0], home[1], named):
        raise BadSong(("home", 0))


def is_overlap(one, other):
    """Whether two told notes have a beat together."""
    return max(one[2], other[2]) < min(one[3], other[3])


def parts_of(song):
    """Lists of rising names that hang together by ties, by their first names."""
    notes, ties, _ = song
    return hanging_together([note[0] for note in notes], [(tie[1], tie[2]) for tie in ties])


def may_stand_behind(note, ahead):
    """Whether a note may stand behind those ahead of it."""
    name, voice, start, end = note
    if start >= end or name in [other[0] for other in ahead]:
        return False
    return not any([other[1] == voice and is_overlap(note, other) for other in ahead])


def may_tie(tie, named):
    """Whether a tie may stand among notes, which are told by their names."""
    word, one, other = tie[:3]
    if not are_two(one, other, named):
        return False
    first = named[one]
    second = named[other]
    if word == "pure":
        return is_overlap(first, second)
    if word == "step" and first[1] != second[1]:
        return False
    return first[3] <= second[2]


def are_two(one, other, named):
    """Whether two names are those of two notes."""
    return one != other and one in named and other in named


def hanging_together(names, pairs):
    """Lists of rising names that pairs of them join, by their first names."""
    rising = sorted(names)
    marks = {name: name for name in rising}
    for one, other in pairs:
        mark, other_mark = marks[one], marks[other]
        for name in rising:
            if marks[name] == other_mark:
                marks[name] = mark
    parts = {}
    for name in rising:
        parts.setdefault(marks[name], []).append(name)
    return list(parts.values())
