"""The refusals, all of them straight under SongError."""


class SongError(ValueError):
    """What every refusal is."""


class BadSign(SongError):
    """A text that can't be parted into words."""

    def __init__(self, spot):
        super().__init__(f"no word at sign {spot}")
        self.spot = spot


class BadText(SongError):
    """A row that is none of a song's."""

    def __init__(self, spot):
        super().__init__(f"no row goes on so: row and word {spot}")
        self.spot = spot


class BadSong(SongError):
    """A told song in which something is wrong."""

    def __init__(self, row):
        super().__init__(f"no song with {row}")
        self.row = row


class Unpure(SongError):
    """A song without a pure tuning."""

    def __init__(self, round_of):
        super().__init__("a round comes to another ratio than 1 / 1")
        self.round_of = own_round(round_of)


class TooTight(SongError):
    """A song of which no bending stands."""

    def __init__(self, round_of):
        super().__init__("the sizes of a round come to more than its bends")
        self.round_of = own_round(round_of)


class NoHome(SongError):
    """A song that has no home, or one that does not hang together."""


class NoTie(SongError):
    """What is no tie of a song, or can't be one."""


class BadLine(SongError):
    """A line that no desk answers."""


def own_round(round_of):
    # Whoever hands in a list may change it later; the refusal stays as it is.
    return list(round_of) if isinstance(round_of, list) else round_of
