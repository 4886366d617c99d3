"""Pure tunings of songs, and the rounds by which there is none."""

from choirtrue.errors import Unpure
from choirtrue.ratios import together, turned
from choirtrue.songs import parts_of

NOUGHT = (0, 0, 0, 0)


def tuned(song):
    """The pure tuning of a song, a dict by names; Unpure."""
    told = {}
    for part in parts_of(song):
        told.update(pitches(song, ways_from(song, part[0])))
    if unpure_ties(song, told):
        raise Unpure(least_round(song))
    return {name: told[name] for name in sorted(told)}


def round_ratio(song, one):
    """What a round, of home too, comes to."""
    ties = ties_and_home(song)
    total = NOUGHT
    for number, forth in one:
        ratio = ties[number][3]
        total = together(total, ratio if forth == 1 else turned(ratio))
    return total


def is_round(song, told, home=False):
    """Whether anything told is a round of the song's ties, with home True of home, too."""
    ties = ties_and_home(song) if home else song[1]
    if not isinstance(told, list) or len(told) < 2:
        return False
    if not all([is_step(step, len(ties)) for step in told]):
        return False
    # The names of a tie stand at 1 and 2, so gone back it begins at 2 and ends at 1.
    begun = [ties[number][1 if forth == 1 else 2] for number, forth in told]
    ended = [ties[number][2 if forth == 1 else 1] for number, forth in told]
    return begun == ended[-1:] + ended[:-1] and are_unlike(ended) and are_unlike([step[0] for step in told])


def ties_and_home(song):
    """All told ties, home as a last one where there is one."""
    _, ties, home = song
    if home is None:
        return list(ties)
    return [*ties, ("home", home[0], home[1], NOUGHT, 0, 1)]


def is_step(told, many):
    """Whether anything told is (tie, forth), of so many ties."""
    if not isinstance(told, tuple) or len(told) != 2:
        return False
    return all([is_whole(number) for number in told]) and 0 <= told[0] < many and told[1] in (1, -1)


def is_whole(told):
    """Whether anything told is a whole number; True and False are none."""
    return isinstance(told, int) and not isinstance(told, bool)


def are_unlike(told):
    return len(set(told)) == len(told)


def ways_from(song, first):
    """To each note that hangs together with the first a list of as few (tie, forth) as can be."""
    ways = {first: []}
    reached = [first]
    while reached:
        further = []
        for name in reached:
            for step, end in steps_from(song, name):
                if end not in ways:
                    ways[end] = ways[name] + [step]
                    further.append(end)
        reached = further
    return ways


def steps_from(song, name):
    """Each tie that may be gone from a note, as ((tie, forth), the note to which it comes)."""
    steps = []
    for number, tie in enumerate(song[1]):
        if tie[1] == name:
            steps.append(((number, 1), tie[2]))
        elif tie[2] == name:
            steps.append(((number, -1), tie[1]))
    return steps


def pitches(song, ways):
    """The ratios of notes, by their names, to which ways lead from one of (0, 0, 0, 0)."""
    return {name: round_ratio(song, ways[name]) for name in ways}


def unpure_ties(song, told):
    """The numbers of the ties between tuned notes for which told ratios are not pure."""
    return [number for number, tie in enumerate(song[1])
            if tie[1] in told and together(told[tie[1]], tie[3]) != told[tie[2]]]


def least_round(song):
    """A round of as few ties as can be of those that can't be, of a song that has some."""
    rounds = []
    for note in song[0]:
        ways = ways_from(song, note[0])
        for number in unpure_ties(song, pitches(song, ways)):
            _, one, other = song[1][number][:3]
            rounds.append(ways[one] + [(number, 1)] + gone_back(ways[other]))
    # What comes to a note twice parts into two with fewer ties, and one of them can't be, either.
    # The least of all is found from each of its notes, so the least of these comes to none twice.
    return min(rounds, key=len)


def gone_back(way):
    return [(number, -forth) for number, forth in way[::-1]]
