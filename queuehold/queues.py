"""A queue of letters, kept in the segments of a disk."""

from queuehold.bounds import is_number, is_word
from queuehold.errors import BadBody, BadHand, BadNumber, BadSettings, Broken, NotHeld
from queuehold.rows import HIGHEST_NUMBER, HIGHEST_TIMES, LARGEST_DEAL, is_row, row_bytes, rows_in
from queuehold.rules import Book

LARGEST_MOST = 2000
LONGEST_HOLD = 99
HIGHEST_TRIES = 9
LONGEST_WAIT = 99
HAND_SIGNS = "abcdefghijklmnopqrstuvwxyz"
LONGEST_HAND = 6


def check_settings(most, hold, tries):
    if not is_number(most, 1, LARGEST_MOST):
        raise BadSettings("most is 1 to 2000")
    if not is_number(hold, 0, LONGEST_HOLD):
        raise BadSettings("hold is 0 to 99")
    if not is_number(tries, 1, HIGHEST_TRIES):
        raise BadSettings("tries are 1 to 9")


def check_body(body):
    # A body of a letter is just what a put can have behind its number.
    if not is_row(("put", 0, body)):
        raise BadBody("a body is a tuple of up to 60 bytes")


def check_bodies(bodies):
    if not isinstance(bodies, tuple) or not 1 <= len(bodies) <= LARGEST_DEAL:
        raise BadBody("bodies are a tuple of 1 to 9")
    for body in bodies:
        check_body(body)


def check_hand(hand):
    if not is_word(hand, HAND_SIGNS, LONGEST_HAND):
        raise BadHand("a hand is a text of 1 to 6 letters a to z")


def segment_name(segment):
    return f"s{segment}"


def segment_of(name):
    figures = name[1:]
    if not figures.isdigit() or name != segment_name(int(figures)):
        raise Broken("a file is no segment")
    return int(figures)


def segments_on(disk):
    # As numbers they are in order; as names s10 would come ahead of s2.
    segments = sorted([segment_of(name) for name in disk.names()])
    if segments and segments[-1] - segments[0] + 1 != len(segments):
        raise Broken("a segment lacks between others")
    return segments


def without_last_parts(rows):
    many = len(rows)
    while many > 0 and rows[many - 1][0] == "part":
        many -= 1
    return rows[:many]


def rows_of(disk, segment, last):
    found = rows_in(disk.read(segment_name(segment)))
    rows = without_last_parts(found[0])
    if segment != last and (found[1] > 0 or len(rows) < len(found[0])):
        raise Broken("a segment but the last ends with what is not done")
    if segment != last and not rows:
        raise Broken("a segment but the last has no row")
    if rows and rows[0][0] != "from":
        raise Broken("a segment begins with another row than from")
    return rows


def book_of(disk):
    segments = segments_on(disk)
    book = Book()
    for segment in segments:
        for row in rows_of(disk, segment, segments[-1]):
            book.enter(row, segment)
    return book


# Behind each of its steps the disk can be made good again, so that a stop under way does no harm.
def make_good(disk):
    segments = segments_on(disk)
    if not segments:
        disk.make(segment_name(0))
        segments = [0]
    name = segment_name(segments[-1])
    rows = without_last_parts(rows_in(disk.read(name))[0])
    if not rows and len(segments) > 1:
        disk.drop(name)
        return segments[:-1]
    size = sum([len(row_bytes(row)) for row in rows])
    if size < disk.size(name):
        disk.cut(name, size)
    if not rows:
        disk.add(name, row_bytes(("from", 0, ())))
    return segments


class Queue:
    def __init__(self, disk, most, hold, tries):
        check_settings(most, hold, tries)
        self.disk = disk
        self.most = most
        self.hold = hold
        self.tries = tries
        # All is read ahead of the first step, so that a disk that is refused stays as it was.
        self.book = book_of(disk)
        segments = make_good(disk)
        self.first = segments[0]
        self.last = segments[-1]
        self.writing = False
        self.holders = {}
        self.now = 0

    def put(self, body):
        check_body(body)
        number = self.book.upcoming
        self.write([("put", number, body)])
        return number

    def put_all(self, bodies):
        check_bodies(bodies)
        first = self.book.upcoming
        parts = [("part", number, body) for number, body in enumerate(bodies, start=first)]
        self.write(parts + [("deal", first, (len(bodies),))])
        return [part[1] for part in parts]

    def take(self, hand):
        check_hand(hand)
        numbers = self.ready()
        if not numbers:
            return None
        number = numbers[0]
        self.write([("out", number, ())])
        self.holders[number] = (hand, self.now)
        return self.book.letter(number)

    def done(self, hand, number):
        self.check_held(hand, number)
        self.write([("done", number, ())])
        self.holders.pop(number)

    def give_back(self, hand, number):
        self.check_held(hand, number)
        self.holders.pop(number)

    def wait(self, many):
        if not is_number(many, 1, LONGEST_WAIT):
            raise BadNumber("a wait is 1 to 99 long")
        self.now += many
        late = [number for number in sorted(self.holders) if self.now - self.holders[number][1] > self.hold]
        for number in late:
            self.holders.pop(number)
        return [self.book.letter(number) for number in late]

    def revive(self, number):
        if not is_number(number, 0, HIGHEST_NUMBER) or number not in self.dead():
            raise BadNumber("no letter with this number is dead")
        self.write([("new", number, ())])

    def letters(self):
        return self.book.letters()

    def ready(self):
        return [letter[0] for letter in self.free_letters() if letter[2] < self.tries]

    def dead(self):
        return [letter[0] for letter in self.free_letters() if letter[2] >= self.tries]

    def held(self):
        return [(number, self.holders[number][0]) for number in sorted(self.holders)]

    def coming(self):
        return self.book.upcoming

    def clock(self):
        return self.now

    def sizes(self):
        return [self.disk.size(segment_name(segment)) for segment in segments_on(self.disk)]

    def sweep(self):
        went = 0
        while self.first < self.last and not self.book.numbers_in(self.first):
            self.drop_first()
            went += 1
        return went

    def carry(self):
        if self.first == self.last:
            return None
        numbers = self.book.numbers_in(self.first)
        for number in numbers:
            letter = self.book.letter(number)
            # No queue hands a letter out more often than the byte can tell, but rows of other makers may.
            times = min(letter[2], HIGHEST_TIMES)
            self.write([("carried", number, (times,) + letter[1])])
        self.drop_first()
        return len(numbers)

    def free_letters(self):
        return [letter for letter in self.book.letters() if letter[0] not in self.holders]

    def check_held(self, hand, number):
        check_hand(hand)
        if not is_number(number, 0, HIGHEST_NUMBER) or number not in self.holders:
            raise NotHeld("no letter with this number is held")
        if self.holders[number][0] != hand:
            raise NotHeld("another hand holds this letter")

    # Either all these rows are written, and then entered, or none of them counts.
    def write(self, rows):
        some = ()
        for row in rows:
            some = some + row_bytes(row)
        if self.writing:
            # The last writing was stopped: rows behind what is left of it could not be read.
            make_good(self.disk)
        self.writing = True
        if self.is_last_full():
            self.begin_segment()
        self.disk.add(segment_name(self.last), some)
        self.writing = False
        for row in rows:
            self.book.enter(row, self.last)

    def is_last_full(self):
        # Behind the highest number there is no row from: the letters that are left then need the last segment on.
        if self.book.upcoming > HIGHEST_NUMBER:
            return False
        return self.disk.size(segment_name(self.last)) >= self.most

    def begin_segment(self):
        some = row_bytes(("from", self.book.upcoming, ()))
        name = segment_name(self.last + 1)
        self.disk.make(name)
        self.disk.add(name, some)
        # Only with its whole row it counts; else the segment ahead of it could go while it holds the next number.
        self.last += 1

    def drop_first(self):
        self.disk.drop(segment_name(self.first))
        self.first += 1
