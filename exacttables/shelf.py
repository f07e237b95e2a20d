"""What is kept from call to call: six places that hold tables, and a code."""

from exacttables.linecode import Code
from exacttables.refusals import OutOfRange
from exacttables.table import Table, settled_table

PLACES = 6


def need_range(number, low, high):
    """Refuse a number that isn't from low to high."""
    if number < low or number > high:
        raise OutOfRange()


def need_place(number):
    """Refuse a number that isn't one of a place."""
    need_range(number, 0, PLACES - 1)


class Shelf:
    """At the beginning each place holds a table without rows and columns, and the code has nothing."""

    def __init__(self):
        self.tables = [Table(0, 0, []) for place in range(PLACES)]
        self.code = Code(0, 0, [], [])

    def held(self, place):
        """The table at that place."""
        need_place(place)
        return self.tables[place]

    def put(self, place, table):
        """Keep the table at that place, or refuse it and change nothing."""
        self.tables[place] = settled_table(table)
