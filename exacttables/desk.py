"""The way in: a list of calls on one new shelf, and what they answer."""

from exacttables.reader import Reader
from exacttables.refusals import BadList, OutOfRange, SizesDontFit, TooLarge
from exacttables.shelf import Shelf
from exacttables.tablecalls import TABLE_CALLS


def answer_of(call, shelf, given):
    """What the call answers, or the number of its refusal alone."""
    try:
        return call(shelf, given)
    except OutOfRange:
        return [-1]
    except BadList:
        return [-2]
    except SizesDontFit:
        return [-8]
    except TooLarge:
        return [-4]


def answers(calls):
    """For each call in order how many numbers are answered, then these."""
    reader = Reader(calls)
    shelf = Shelf()
    told = []
    while not reader.ended():
        entry = TABLE_CALLS[reader.take()]
        answer = answer_of(entry[0], shelf, reader.take_given(entry[1], entry[2]))
        told.append(len(answer))
        told.extend(answer)
    return told
