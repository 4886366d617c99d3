"""How a song sinks from verse to verse, and where it is lost."""

from choirtrue.errors import NoHome
from choirtrue.ratios import power, size, together, turned
from choirtrue.songs import parts_of
from choirtrue.tuning import tuned


def sink(song):
    """The ratio by which a song sinks from verse to verse; NoHome, Unpure."""
    home = song[2]
    if home is None:
        raise NoHome("the song has no home")
    one, other = home
    ratios = tuned(song)
    if not any([one in part and other in part for part in parts_of(song)]):
        raise NoHome("the notes of home don't hang together by ties")
    return together(ratios[other], turned(ratios[one]))


def sunk(song, verses):
    """The ratio by which a song has sunk behind so many verses; NoHome, Unpure."""
    return power(sink(song), verses)


def lost(song, bound):
    """The first verse behind which a song has sunk by more grains than the bound; NoHome, Unpure."""
    by = abs(size(sink(song)))
    return None if by == 0 else bound // by + 1
