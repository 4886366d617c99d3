"""Papers: a bending and a flow, each of which shows that the other one can't be bettered."""

from choirtrue.bending import cost, is_flow, stands, worth
from choirtrue.tuning import is_whole


def is_right(song, told):
    """Whether anything told is a paper of a song, and right."""
    if not is_tuple_of(told, 2):
        return False
    rows, flow = told
    if not is_bending(song, rows) or not is_all_whole(flow):
        return False
    bending = dict(rows)
    return stands(song, bending) and is_flow(song, flow) and cost(song, bending) == worth(song, flow)


def is_bending(song, told):
    """Whether anything told is a tuple of (name, grains), one for each note of a song, names rising."""
    if not is_tuple_of(told, len(song[0])) or not all([is_tuple_of(row, 2) for row in told]):
        return False
    names = [name for name, _ in told]
    # What is no str may call itself the like of a name.
    if not all([isinstance(name, str) for name in names]) or names != sorted([note[0] for note in song[0]]):
        return False
    return is_all_whole(tuple([grains for _, grains in told]))


def is_all_whole(told):
    """Whether anything told is a tuple of whole numbers."""
    return isinstance(told, tuple) and all([is_whole(number) for number in told])


def is_tuple_of(told, many):
    """Whether anything told is a tuple of so many."""
    return isinstance(told, tuple) and len(told) == many
