"""The way in: a list of calls on one new shelf, and what they answer."""

from exacttables.codecalls import CODE_CALLS
from exacttables.reader import Reader
from exacttables.refusals import BadList, DontHold, FaultyRun, NoResult, NotEarlier, OutOfRange, SizesDontFit
from exacttables.refusals import TooLarge, TooManyLines
from exacttables.shelf import Shelf
from exacttables.tablecalls import TABLE_CALLS


def answer_of(call, shelf, given):
    """What the call answers, or the number of its refusal alone."""
    try:
        return call(shelf, given)
    except OutOfRange:
        return [-1]
    except BadList:
        return [-2]
    except TooManyLines:
        return [-7]
    except NotEarlier:
        return [-3]
    except SizesDontFit:
        return [-8]
    except FaultyRun:
        return [-5]
    except DontHold:
        return [-10]
    except NoResult:
        return [-9]
    except TooLarge:
        return [-4]


def answers(calls):
    """For each call in order how many numbers are answered, then these."""
    known = TABLE_CALLS + CODE_CALLS
    reader = Reader(calls)
    shelf = Shelf()
    told = []
    while not reader.ended():
        entry = known[reader.take()]
        answer = answer_of(entry[0], shelf, reader.take_given(entry[1], entry[2]))
        told.append(len(answer))
        told.extend(answer)
    return told
