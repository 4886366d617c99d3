"""A desk: answers lines of words about the song of its house."""

from choirtrue.bending import cost
from choirtrue.errors import BadLine, BadSign, BadText, NoHome, NoTie, TooTight, Unpure
from choirtrue.house import House
from choirtrue.ratios import ratio_text, size
from choirtrue.reading import read, read_tie
from choirtrue.tuning import round_ratio
from choirtrue.words import is_number, text_words

WAYS = {1: "forth", -1: "back"}


class Desk:
    """Answers of the song of a text; refuses the text as read does, then the song as need_song does."""

    def __init__(self, text):
        self.house = House(read(text))

    def say(self, line):
        """The answer to anything, a list of texts."""
        try:
            return answer(self.house, line_words(line))
        except BadLine:
            return ["BadLine"]
        except NoTie:
            return ["NoTie"]
        except NoHome:
            return ["NoHome"]
        except Unpure:
            return ["Unpure"]


def answer(house, words):
    """What a house answers to the words of a line; BadLine, NoTie, NoHome, Unpure."""
    if words == ["pure"]:
        return pure_lines(house)
    if words == ["sink"]:
        return [sink_line(house.sink())]
    if words == ["back"]:
        return back_lines(house)
    if words[:1] == ["put"]:
        house.put(line_tie(words[1:]))
        return ["done"]
    if words[:1] == ["take"]:
        house.take(line_number(words[1:]))
        return ["done"]
    if words[:1] == ["lost"]:
        return [lost_line(house.lost(line_number(words[1:])))]
    raise BadLine("no line begins so, or it ends elsewhere")


def line_words(line):
    """The words of a line; BadLine."""
    try:
        rows = text_words(line)
    except BadSign:
        raise BadLine("what can't be parted into words") from None
    if len(rows) != 1:
        raise BadLine("more than one line")
    return rows[0]


def line_tie(words):
    """The told tie of a row's words; BadLine."""
    try:
        return read_tie(words)
    except BadText:
        raise BadLine("a row that is no tie") from None


def line_number(words):
    """The number of a line that has one more word, and that is one; BadLine."""
    if len(words) != 1 or not is_number(words[0]):
        raise BadLine("no number, or more than one word")
    return int(words[0])


def pure_lines(house):
    """The pure tuning, or the round by which there is none and what it comes to."""
    try:
        ratios = house.tuned()
    except Unpure as refusal:
        comes = ratio_text(round_ratio(house.song(), refusal.round_of))
        return round_lines(refusal.round_of) + [f"comes to {comes}"]
    return [f"{name} {ratio_text(ratios[name])}" for name in ratios]


def sink_line(ratio):
    return f"{ratio_text(ratio)} {size(ratio)}"


def lost_line(verse):
    return "never" if verse is None else str(verse)


def back_lines(house):
    """The bending that costs the least and its cost, or the round that is too tight."""
    try:
        rows, _ = house.brought()
    except TooTight as refusal:
        return round_lines(refusal.round_of) + ["too tight"]
    costs = cost(house.song(), dict(rows))
    return [f"{name} {grains}" for name, grains in rows] + [f"costs {costs}"]


def round_lines(round_of):
    """The lines of a round, one for each of its ties behind the first."""
    return ["round"] + [f"{number} {WAYS[forth]}" for number, forth in round_of]
