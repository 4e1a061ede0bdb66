"""A queue as the document tells it, that keeps whole rows and never stops; nothing of the program is used."""

from samples import bytes_of_rows

HANDS = "abcdefghijklmnopqrstuvwxyz"


def is_number(thing):
    return isinstance(thing, int) and not isinstance(thing, bool)


def is_body(thing):
    return isinstance(thing, tuple) and len(thing) <= 60 and all(is_number(one) and 0 <= one < 256 for one in thing)


def is_hand(thing):
    return isinstance(thing, str) and 0 < len(thing) < 7 and not set(thing) - set(HANDS)


class Refused(Exception):
    pass


class Letter:
    def __init__(self, body, times, segment):
        self.body = body
        self.times = times
        self.segment = segment
        self.hand = None
        self.since = None


class Model:
    def __init__(self, most, hold, tries):
        self.most = most
        self.hold = hold
        self.tries = tries
        self.segments = {0: [("from", 0, ())]}
        self.box = {}
        self.coming = 0
        self.clock = 0

    def opened_anew(self):
        self.clock = 0
        for letter in self.box.values():
            letter.hand = None

    def do(self, deed):
        try:
            return getattr(self, "do_" + deed[0])(*deed[1:])
        except Refused:
            return "refused"

    def write(self, *rows):
        last = max(self.segments)
        if len(bytes_of_rows(self.segments[last])) >= self.most:
            last += 1
            self.segments[last] = [("from", self.coming, ())]
        self.segments[last].extend(rows)
        return last

    def held_by(self, hand, number):
        if not is_hand(hand) or not is_number(number) or number not in self.box or self.box[number].hand != hand:
            raise Refused()
        return self.box[number]

    def do_put(self, body):
        if not is_body(body):
            raise Refused()
        segment = self.write(("put", self.coming, body))
        self.box[self.coming] = Letter(body, 0, segment)
        self.coming += 1
        return self.coming - 1

    def do_all(self, bodies):
        if not isinstance(bodies, tuple) or len(bodies) not in range(1, 10) or not all(map(is_body, bodies)):
            raise Refused()
        numbers = [self.coming + place for place in range(len(bodies))]
        rows = [("part", number, body) for number, body in zip(numbers, bodies)]
        segment = self.write(*rows, ("deal", self.coming, (len(bodies),)))
        for number, body in zip(numbers, bodies):
            self.box[number] = Letter(body, 0, segment)
        self.coming += len(bodies)
        return numbers

    def do_take(self, hand):
        if not is_hand(hand):
            raise Refused()
        for number, letter in sorted(self.box.items(), key=lambda pair: pair[0]):
            if letter.hand is None and letter.times < self.tries:
                self.write(("out", number, ()))
                letter.times += 1
                letter.hand = hand
                letter.since = self.clock
                return (number, letter.body, letter.times)
        return None

    def do_done(self, hand, number):
        self.held_by(hand, number)
        self.write(("done", number, ()))
        del self.box[number]

    def do_back(self, hand, number):
        self.held_by(hand, number).hand = None

    def do_wait(self, many):
        if not is_number(many) or many not in range(1, 100):
            raise Refused()
        self.clock += many
        late = [n for n, one in self.box.items() if one.hand is not None and one.since + self.hold < self.clock]
        for number in late:
            self.box[number].hand = None
        return [(number, self.box[number].body, self.box[number].times) for number in sorted(late)]

    def do_new(self, number):
        if not is_number(number) or number not in self.dead():
            raise Refused()
        self.write(("new", number, ()))
        self.box[number].times = 0

    def do_sweep(self):
        went = 0
        for segment in sorted(self.segments)[:-1]:
            if any(letter.segment == segment for letter in self.box.values()):
                break
            del self.segments[segment]
            went += 1
        return went

    def do_carry(self):
        if len(self.segments) == 1:
            return None
        first = min(self.segments)
        numbers = sorted(number for number, letter in self.box.items() if letter.segment == first)
        for number in numbers:
            letter = self.box[number]
            letter.segment = self.write(("carried", number, (letter.times,) + letter.body))
        del self.segments[first]
        return len(numbers)

    def letters(self):
        return [(number, letter.body, letter.times) for number, letter in sorted(self.box.items(), key=lambda p: p[0])]

    def ready(self):
        return sorted(n for n, one in self.box.items() if one.hand is None and one.times < self.tries)

    def dead(self):
        return sorted(n for n, one in self.box.items() if one.hand is None and not one.times < self.tries)

    def held(self):
        return sorted((number, letter.hand) for number, letter in self.box.items() if letter.hand is not None)

    def files(self):
        return {"s" + str(segment): bytes_of_rows(rows) for segment, rows in self.segments.items()}

    def sizes(self):
        return [len(bytes_of_rows(rows)) for segment, rows in sorted(self.segments.items())]

    def stays(self):
        """What a queue opened anew must have."""
        return (self.letters(), self.coming)
