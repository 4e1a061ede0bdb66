"""What rows make: letters, and the next number."""

from queuehold.errors import BadRow, Broken
from queuehold.rows import is_row


class Book:
    # Rows are entered one behind the other; what they have made so far can be asked at any time.
    def __init__(self):
        self.entries = {}
        self.upcoming = 0
        self.parts = []

    # The segment is kept with each letter, since a letter is where its last put, part or carried row is.
    def enter(self, row, segment):
        kind = row[0]
        number = row[1]
        body = row[2]
        if kind == "part":
            self.parts.append(row)
        elif kind == "deal":
            self.enter_deal(number, body[0], segment)
        elif self.parts:
            raise Broken("another row is between parts and their deal")
        elif kind == "put":
            self.enter_put(number, body, segment)
        elif kind == "from":
            self.upcoming = max(self.upcoming, number)
        elif kind == "carried":
            self.entries[number] = (body[1:], body[0], segment)
            self.upcoming = max(self.upcoming, number + 1)
        elif number in self.entries:
            self.change_entry(kind, number)

    def enter_put(self, number, body, segment):
        if number < self.upcoming:
            raise Broken("a number is told twice, or out of order")
        self.entries[number] = (body, 0, segment)
        self.upcoming = number + 1

    def enter_deal(self, number, many, segment):
        parts = self.parts
        self.parts = []
        if [part[1] for part in parts] != list(range(number, number + many)):
            raise Broken("right ahead of a deal are not just its parts")
        for part in parts:
            self.enter_put(part[1], part[2], segment)

    def change_entry(self, kind, number):
        entry = self.entries[number]
        if kind == "out":
            self.entries[number] = (entry[0], entry[1] + 1, entry[2])
        elif kind == "new":
            self.entries[number] = (entry[0], 0, entry[2])
        else:
            self.entries.pop(number)

    def letter(self, number):
        entry = self.entries[number]
        return (number, entry[0], entry[1])

    def letters(self):
        return [self.letter(number) for number in sorted(self.entries)]

    def numbers_in(self, segment):
        return [number for number in sorted(self.entries) if self.entries[number][2] == segment]


def made(rows):
    if not isinstance(rows, list) or not all([is_row(row) for row in rows]):
        raise BadRow("this is no list of rows")
    book = Book()
    for row in rows:
        # Here all rows are in one place, so any segment will do.
        book.enter(row, 0)
    if book.parts:
        raise Broken("at the end are parts without their deal")
    return (book.letters(), book.upcoming)
