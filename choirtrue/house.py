"""A house: a song whose ties come and go."""

from choirtrue.bending import brought
from choirtrue.errors import NoTie
from choirtrue.ratios import fraction
from choirtrue.reading import TIE_WORDS, is_bounded
from choirtrue.sinking import lost, sink
from choirtrue.songs import MOST_TIES, may_tie, need_song
from choirtrue.tuning import NOUGHT, is_whole, tuned

# As often as a prime may stand in a ratio that can be read: 2 stands 13 times in 8192.
MOST_OFTEN = 13


class House:
    """A song of which all is told as it is, whatever ties came and went; BadSong."""

    def __init__(self, song):
        need_song(song)
        notes, ties, home = song
        self.notes = tuple(notes)
        self.ties = list(ties)
        self.home = home

    def put(self, tie):
        """Puts a tie behind all others; NoTie."""
        named = {note[0]: note for note in self.notes}
        if not is_told_tie(tie) or len(self.ties) >= MOST_TIES or not may_tie(tie, named):
            raise NoTie("this can't be a tie of the song")
        self.ties.append(tie)

    def take(self, number):
        """Takes the tie of a number away; NoTie."""
        if not is_whole(number) or not 0 <= number < len(self.ties):
            raise NoTie("no tie has this number")
        del self.ties[number]

    def song(self):
        """The told song as it is."""
        return (self.notes, tuple(self.ties), self.home)

    def tuned(self):
        """The pure tuning, a dict by names; Unpure."""
        return tuned(self.song())

    def sink(self):
        """The ratio by which the song sinks from verse to verse; NoHome, Unpure."""
        return sink(self.song())

    def lost(self, bound):
        """The verse in which the song is lost, or None; NoHome, Unpure."""
        return lost(self.song(), bound)

    def brought(self):
        """The paper by which the song is brought back; TooTight."""
        return brought(self.song())


def is_told_tie(told):
    """Whether anything told is a tie as it is told of a row."""
    if not isinstance(told, tuple) or len(told) != 6:
        return False
    word, one, other, ratio, bend, weight = told
    if not all([isinstance(name, str) for name in (word, one, other)]) or word not in TIE_WORDS:
        return False
    if not is_told_ratio(ratio) or (word == "held" and ratio != NOUGHT):
        return False
    return is_told_number(bend, "BEND") and is_told_number(weight, "WEIGHT")


def is_told_ratio(told):
    """Whether anything told is a ratio that can be read."""
    if not isinstance(told, tuple) or len(told) != 4:
        return False
    # Far greater numbers than these would make a fraction beyond all bounds.
    if not all([is_whole(often) and abs(often) <= MOST_OFTEN for often in told]):
        return False
    return all([is_bounded(part, "PART") for part in fraction(told)])


def is_told_number(told, kind):
    """Whether anything told is a whole number within the bounds of its kind."""
    return is_whole(told) and is_bounded(told, kind)
