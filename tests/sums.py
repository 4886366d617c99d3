"""The sums of promises 11 to 13, written apart from the program, for the tests that need them."""

GRAINS = (1200000, 1901955, 2786314, 3368826)
# Ratios near 1 / 1, so that songs of them are now too tight and now not.
COMMAS = ((0, 0, 0, 0), (-4, 4, -1, 0), (-5, 2, 2, -1), (1, 2, -3, 1), (-5, -1, -2, 4), (10, -6, 1, -1),
          (-10, 1, 0, 3), (11, -4, -2, 0), (6, -2, 0, -1), (-1, -7, 4, 1))


def grains_of(ratio):
    return sum(often * grains for often, grains in zip(ratio, GRAINS))


def can_be_read(ratio):
    for sign in (1, -1):
        part = 1
        for often, prime in zip(ratio, (2, 3, 5, 7)):
            part *= prime ** max(sign * often, 0)
        if part > 9999:
            return False
    return True


def links_of(song):
    """(one, other, size, bend, weight) of each tie, home last."""
    links = [(one, other, grains_of(ratio), bend, weight) for _, one, other, ratio, bend, weight in song[1]]
    if song[2] is not None:
        links.append((*song[2], 0, 0, 1))
    return links


def bent_by(song, bending):
    return [bending[other] - bending[one] - grains for one, other, grains, _, _ in links_of(song)]


def does_stand(song, bending):
    return all(-bend <= bent <= bend for bent, (_, _, _, bend, _) in zip(bent_by(song, bending), links_of(song)))


def costs(song, bending):
    return sum(weight * abs(bent) for bent, (_, _, _, _, weight) in zip(bent_by(song, bending), links_of(song)))


def does_flow(song, flow):
    for name, _, _, _ in song[0]:
        comes = sum(many for many, link in zip(flow, links_of(song)) if link[1] == name)
        goes = sum(many for many, link in zip(flow, links_of(song)) if link[0] == name)
        if comes != goes:
            return False
    return True


def is_worth(song, flow):
    total = 0
    for many, (_, _, grains, bend, weight) in zip(flow, links_of(song)):
        total += many * grains
        if many > weight:
            total -= bend * (many - weight)
        elif many < -weight:
            total -= bend * (-many - weight)
    return total


def parts_by_home(song):
    """Sets of names that hang together, by home, too."""
    parts = [{note[0]} for note in song[0]]
    for one, other, _, _, _ in links_of(song):
        joined = [part for part in parts if one in part or other in part]
        parts = [part for part in parts if part not in joined] + [set().union(*joined)]
    return parts


def is_too_tight(song):
    """Whether no bending stands, by the least ways between any two notes."""
    names = [note[0] for note in song[0]]
    far = {(one, other): 0 if one == other else 10 ** 15 for one in names for other in names}
    for one, other, grains, bend, _ in links_of(song):
        far[one, other] = min(far[one, other], grains + bend)
        far[other, one] = min(far[other, one], bend - grains)
    for by in names:
        for one in names:
            for other in names:
                far[one, other] = min(far[one, other], far[one, by] + far[by, other])
    return any(far[name, name] < 0 for name in names)


def is_tight_round(song, told):
    """Whether a list is a round, of home, too, in which the sizes come to more than the bends."""
    links = links_of(song)
    begun = [links[number][0 if forth == 1 else 1] for number, forth in told]
    ended = [links[number][1 if forth == 1 else 0] for number, forth in told]
    if len(told) < 2 or begun[1:] + begun[:1] != ended or len(set(begun)) < len(begun):
        return False
    if len({number for number, _ in told}) < len(told) or any(forth not in (1, -1) for _, forth in told):
        return False
    comes = sum(links[number][2] * forth for number, forth in told)
    return abs(comes) > sum(links[number][3] for number, _ in told)


def song_of(names, ties, home=None):
    """A song of notes of one beat, each in a voice of its own, and pure ties (one, other, ratio, bend, weight)."""
    return (tuple((name, name, 0, 1) for name in names), tuple(("pure", *tie) for tie in ties), home)


def random_song(chance, most_notes, most_ties, most_bend=9999):
    names = chance.sample("abcdefghijklmnop", chance.randrange(2, most_notes + 1))
    ties = []
    for _ in range(chance.randrange(most_ties + 1)):
        ratio = chance.choice(COMMAS)
        ties.append((*chance.sample(names, 2), chance.choice((ratio, tuple(-often for often in ratio))),
                     chance.choice((0, chance.randrange(most_bend + 1), most_bend)), chance.randrange(1, 10)))
    return song_of(names, ties, tuple(chance.sample(names, 2)) if chance.random() < 0.5 else None)


def full_song(chance, more=0):
    """Forty notes, eighty ties and a home, all of which stand by the heights of the notes: by more than just so."""
    names = [chr(97 + at // 26) + chr(97 + at % 26) for at in range(40)]
    chance.shuffle(names)
    heights = {name: chance.choice(((0, 0, 0, 0), (-1, 1, 0, 0), (-2, 0, 1, 0), (1, 1, -1, 0))) for name in names}
    ties = []
    while len(ties) < 80:
        one, other = chance.sample(names, 2)
        comma = chance.choice([comma for comma in COMMAS if grains_of(comma) < 9000])
        ratio = tuple(theirs - ours + off for ours, theirs, off in zip(heights[one], heights[other], comma))
        if can_be_read(ratio):
            ties.append((one, other, ratio, grains_of(comma) + chance.randrange(more + 1), chance.randrange(1, 10)))
    homes = [(one, other) for one in names for other in names if one != other and heights[one] == heights[other]]
    return song_of(names, ties, chance.choice(homes))
