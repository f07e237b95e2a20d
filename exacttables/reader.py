"""Taking calls apart: numbers, and lists with their length ahead of them."""


class Reader:
    """Goes through a list of numbers once, and leaves it as it is."""

    def __init__(self, numbers):
        self.numbers = numbers
        self.place = 0

    def ended(self):
        """Whether all numbers are taken."""
        return self.place >= len(self.numbers)

    def take(self):
        """The next number."""
        number = self.numbers[self.place]
        self.place += 1
        return number

    def take_row(self, length):
        """A list of the next numbers, as many as told."""
        row = self.numbers[self.place:self.place + length]
        self.place += length
        return row

    def take_given(self, plain, lists):
        """What a call is given: so many plain numbers, then so many lists."""
        given = self.take_row(plain)
        for turn in range(lists):
            given.append(self.take_row(self.take()))
        return given
