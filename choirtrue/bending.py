"""Bendings, the flows that show what they cost at the least, and songs that are brought back by them."""

from heapq import heappop, heappush

from choirtrue.errors import TooTight
from choirtrue.ratios import size
from choirtrue.songs import hanging_together
from choirtrue.tuning import ties_and_home


def bends(song, bending):
    """What each tie is bent, home last, by a bending told as a dict by names."""
    return [bending[tie[2]] - bending[tie[1]] - size(tie[3]) for tie in ties_and_home(song)]


def stands(song, bending):
    """Whether no tie is bent by more than its bend."""
    bent = bends(song, bending)
    return all([abs(by) <= tie[4] for by, tie in zip(bent, ties_and_home(song))])


def cost(song, bending):
    """The sum of what the ties are bent, each so often as its weight tells."""
    bent = bends(song, bending)
    return sum([tie[5] * abs(by) for by, tie in zip(bent, ties_and_home(song))])


def worth(song, flow):
    """The worth of a flow, told as a list of what flows along each tie, home last."""
    return sum([many * size(tie[3]) - tie[4] * max(abs(many) - tie[5], 0)
                for many, tie in zip(flow, ties_and_home(song))])


def is_flow(song, flow):
    """Whether a flow stands: as much comes to each note as goes."""
    gained = gains(song, flow)
    return len(flow) == len(ties_and_home(song)) and not any([gained[name] for name in gained])


def brought(song):
    """The paper of a bending that costs the least and of a flow that is worth as much; TooTight."""
    bending = highest_bending(song)
    if not stands(song, bending):
        raise TooTight(tight_round(song))
    # The flow stays the best one for the bending as both change, so once it stands it is worth what that costs.
    flow = flow_against(song, bending)
    leaving = goings_from(song)
    while not is_flow(song, flow):
        send_one(leaving, gains(song, flow), bending, flow)
    return (leveled(song, bending), tuple(flow))


def gains(song, flow):
    """How much more comes to each note than goes, a dict by names."""
    gained = {note[0]: 0 for note in song[0]}
    for many, tie in zip(flow, ties_and_home(song)):
        gained[tie[1]] -= many
        gained[tie[2]] += many
    return gained


def goings(song):
    """Each tie, home last, forth and back: (tie, forth), where it begins and ends, size so gone, bend, weight."""
    told = []
    for number, tie in enumerate(ties_and_home(song)):
        _, one, other, ratio, bend, weight = tie
        told.append(((number, 1), one, other, size(ratio), bend, weight))
        told.append(((number, -1), other, one, -size(ratio), bend, weight))
    return told


def room(going):
    """How many grains the note where it ends may have, at the most, above the one where it begins."""
    return going[3] + going[4]


def goings_from(song):
    """The goings of each note, by its name."""
    leaving = {note[0]: [] for note in song[0]}
    for going in goings(song):
        leaving[going[1]].append(going)
    return leaving


def highest_bending(song):
    """A bending that stands, where there is one, each number as great as it can be and not above nought."""
    steps = goings(song)
    bending = {note[0]: 0 for note in song[0]}
    # The way that holds a note down comes to no note twice, so as many turns as there are notes are enough.
    for _ in song[0]:
        for going in steps:
            bending[going[2]] = min(bending[going[2]], bending[going[1]] + room(going))
    return bending


def tight_round(song):
    """A round of as few ties as can be in which the sizes come to more than the bends, of a song that has some."""
    rounds = [tight_way(song, note[0]) for note in song[0]]
    # What comes to a note twice parts into two with fewer ties, and one of them is too tight, too.
    # The least of all is found from each of its notes, so the least of these comes to none twice.
    return min([one for one in rounds if one], key=len)


def tight_way(song, first):
    """A way of as few ties as can be from a note back to it that is too tight, or [] where there is none."""
    steps = goings(song)
    ways = {first: (0, [])}
    for _ in song[0]:
        longer = dict(ways)
        for going in steps:
            step, one, other = going[:3]
            if one in ways:
                high = ways[one][0] + room(going)
                if other not in longer or high < longer[other][0]:
                    longer[other] = (high, ways[one][1] + [step])
        if longer[first][0] < 0:
            return longer[first][1]
        ways = longer
    return []


def flow_against(song, bending):
    """A flow, which need not stand yet, of as much as the ties that are bent weigh, against the way they are bent."""
    flow = []
    for bent, tie in zip(bends(song, bending), ties_and_home(song)):
        if bent == 0:
            flow.append(0)
        else:
            flow.append(-tie[5] if bent > 0 else tie[5])
    return flow


def send_one(leaving, gained, bending, flow):
    """Sends one more from a note that gains to the nearest one that loses, and bends so that nothing is lost by it."""
    near = {}
    queue = [(0, min([note for note in gained if gained[note] > 0]), [])]
    far, name, way = heappop(queue)
    while gained[name] >= 0:
        if name not in near:
            near[name] = far
            for going in leaving[name]:
                heappush(queue, (far + toll(going, bending, flow), going[2], way + [going[0]]))
        far, name, way = heappop(queue)
    for passed in near:
        bending[passed] += far - near[passed]
    for number, forth in way:
        flow[number] += forth


def toll(going, bending, flow):
    """By how much the worth falls behind the cost where one more flows so; never below nought."""
    (number, forth), one, other, grains, bend, weight = going
    bent = bending[other] - bending[one] - grains
    many = flow[number] * forth
    if many >= weight:
        return bent + bend
    return bent if many >= -weight else bent - bend


def leveled(song, bending):
    """The rows of a paper: of notes that hang together, by home, too, the one of the least name has 0."""
    joined = [(tie[1], tie[2]) for tie in ties_and_home(song)]
    told = {}
    for part in hanging_together(list(bending), joined):
        for name in part:
            told[name] = bending[name] - bending[part[0]]
    return tuple([(name, told[name]) for name in sorted(told)])
