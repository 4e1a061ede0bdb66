import unittest

from queuehold.disk import Disk
from queuehold.errors import Stopped
from queuehold.queues import Queue
from samples import bytes_of_rows, disk_of_rows, files_of

A = (65,)
B = (66, 67)


class RoomCase(unittest.TestCase):
    def start(self, segments, most=2000, tries=9):
        self.disk = disk_of_rows(segments)
        self.queue = Queue(self.disk, most, 5, tries)

    def written(self, segments):
        self.assertEqual(files_of(self.disk), {name: bytes_of_rows(rows) for name, rows in segments.items()})

    def stays(self, call, told):
        """The deed takes no letter, and a queue opened anew has just the same ones."""
        letters = (self.queue.letters(), self.queue.coming(), self.queue.held(), self.queue.ready(), self.queue.dead())
        answer = call()
        self.assertEqual(answer, told)
        self.assertIs(answer.__class__, told.__class__)
        queue = self.queue
        self.assertEqual((queue.letters(), queue.coming(), queue.held(), queue.ready(), queue.dead()), letters)
        self.assertEqual(queue.sizes(), [self.disk.size(name) for name in sorted(self.disk.names(), key=self.place)])
        again = Queue(self.disk, 2000, 5, 9)
        self.assertEqual((again.letters(), again.coming()), letters[:2])

    def place(self, name):
        return int(name[1:])


def one_each(first, many):
    """Segments with one letter each."""
    return {f"s{n}": [("from", n, ()), ("put", n, (n,))] for n in range(first, first + many)}


class SweepTest(RoomCase):
    def test_one_segment_never_goes(self):
        for rows in ([("from", 0, ())], [("from", 0, ()), ("put", 0, A)], [("from", 9, ()), ("done", 8, ())]):
            self.start({"s3": rows})
            self.stays(self.queue.sweep, 0)
            self.written({"s3": rows})

    def test_none_goes_where_the_first_has_a_letter(self):
        segments = {"s0": [("from", 0, ()), ("put", 0, A)], "s1": [("from", 1, ())], "s2": [("from", 1, ())]}
        self.start(segments)
        self.disk.go_on(0)
        self.stays(self.queue.sweep, 0)
        self.written(segments)

    def test_those_ahead_of_the_first_with_a_letter_go(self):
        for done in range(6):
            with self.subTest(done):
                segments = one_each(0, 5)
                segments["s5"] = [("from", 5, ())] + [("done", number, ()) for number in range(done)]
                self.start(segments)
                steps = self.disk.steps()
                self.stays(self.queue.sweep, done)
                self.assertEqual(self.disk.steps(), steps + done)
                self.written({name: rows for name, rows in segments.items() if self.place(name) >= done})
                self.stays(self.queue.sweep, 0)

    def test_one_without_letters_behind_one_with_a_letter_stays(self):
        segments = one_each(0, 4)
        segments["s3"] += [("done", 0, ()), ("done", 2, ())]
        self.start(segments)
        self.stays(self.queue.sweep, 1)
        self.written({name: segments[name] for name in ("s1", "s2", "s3")})

    def test_the_last_stays_with_all_letters_done(self):
        segments = {"s7": [("from", 7, ()), ("put", 7, A)]}
        segments["s8"] = [("from", 8, ()), ("put", 8, A), ("done", 7, ()), ("done", 8, ())]
        self.start(segments)
        self.stays(self.queue.sweep, 1)
        self.written({"s8": segments["s8"]})
        self.assertEqual((self.queue.coming(), self.queue.put(B)), (9, 9))

    def test_letters_of_a_deal_keep_their_segment(self):
        deal = [("part", 0, A), ("part", 1, B), ("deal", 0, (2,))]
        for done in ([0], [1]):
            self.start({"s0": [("from", 0, ())] + deal, "s1": [("from", 2, ())] + [("done", n, ()) for n in done]})
            self.stays(self.queue.sweep, 0)
        self.start({"s0": [("from", 0, ())] + deal, "s1": [("from", 2, ()), ("done", 0, ()), ("done", 1, ())]})
        self.stays(self.queue.sweep, 1)

    def test_a_letter_is_where_it_was_carried_last(self):
        segments = {"s0": [("from", 0, ()), ("put", 0, A), ("put", 1, B), ("out", 1, ())]}
        segments["s1"] = [("from", 2, ()), ("carried", 0, (0, 65))]
        segments["s2"] = [("from", 2, ()), ("carried", 1, (1, 66, 67)), ("carried", 0, (0, 65))]
        segments["s3"] = [("from", 2, ()), ("out", 0, ()), ("new", 1, ())]
        self.start(segments)
        self.assertEqual(self.queue.letters(), [(0, A, 1), (1, B, 0)])
        self.stays(self.queue.sweep, 2)
        self.written({"s2": segments["s2"], "s3": segments["s3"]})

    def test_rows_of_letters_do_not_hold_a_segment(self):
        segments = {"s0": [("from", 1, ()), ("out", 0, ()), ("new", 0, ()), ("done", 0, ())]}
        segments["s1"] = [("from", 1, ()), ("put", 1, A)]
        self.start(segments)
        self.stays(self.queue.sweep, 1)
        self.written({"s1": segments["s1"]})

    def test_a_held_letter_holds_its_segment(self):
        self.start({"s0": [("from", 0, ()), ("put", 0, A)], "s1": [("from", 1, ())]})
        self.queue.take("ann")
        self.stays(self.queue.sweep, 0)
        self.queue.done("ann", 0)
        self.stays(self.queue.sweep, 1)

    def test_letters_of_this_queue(self):
        self.disk = Disk(None)
        self.queue = Queue(self.disk, 1, 5, 9)
        for number in range(3):
            self.queue.put((number,))
        # s0 holds no letter; s1 to s3 one each.
        self.stays(self.queue.sweep, 1)
        self.queue.take("ann")
        self.queue.take("ann")
        self.queue.done("ann", 1)
        self.stays(self.queue.sweep, 0)
        self.queue.done("ann", 0)
        self.stays(self.queue.sweep, 2)
        self.assertEqual(self.disk.names(), ["s3", "s4", "s5", "s6", "s7"])

    def test_stopped(self):
        segments = one_each(0, 3)
        segments["s3"] = [("from", 3, ()), ("done", 0, ()), ("done", 1, ()), ("done", 2, ())]
        for steps in range(3):
            self.start(segments)
            self.disk.go_on(steps)
            self.assertRaises(Stopped, self.queue.sweep)
            self.assertEqual(self.disk.names(), ["s0", "s1", "s2", "s3"][steps:])
            self.disk.go_on(None)
            self.stays(self.queue.sweep, 3 - steps)

    def test_no_number_is_told_twice(self):
        for most in (1, 20, 40):
            self.disk = Disk(None)
            self.queue = Queue(self.disk, most, 5, 9)
            for number in range(8):
                self.assertEqual(self.queue.put(A), number)
            for number in range(8):
                self.queue.take("ann")
                self.queue.done("ann", number)
            self.assertEqual(self.queue.letters(), [])
            sizes = self.queue.sizes()
            self.stays(self.queue.sweep, len(sizes) - 1)
            self.assertEqual(self.queue.sizes(), sizes[-1:])
            again = Queue(self.disk, most, 5, 9)
            self.assertEqual((again.coming(), again.put(B)), (8, 8))


class CarryTest(RoomCase):
    def test_of_one_segment_nothing_is_carried(self):
        for rows in ([("from", 0, ())], [("from", 0, ()), ("put", 0, A)]):
            self.start({"s2": rows}, most=1)
            self.disk.go_on(0)
            self.stays(self.queue.carry, None)
            self.written({"s2": rows})

    def test_letters_of_the_first_segment_are_written_anew(self):
        first = [("from", 0, ()), ("put", 0, A), ("part", 1, B), ("part", 2, ()), ("deal", 1, (2,)), ("put", 3, A)]
        second = [("from", 4, ()), ("put", 4, B), ("out", 2, ()), ("out", 2, ()), ("done", 0, ())]
        self.start({"s0": first, "s1": second})
        self.stays(self.queue.carry, 3)
        carried = [("carried", 1, (0, 66, 67)), ("carried", 2, (2,)), ("carried", 3, (0, 65))]
        self.written({"s1": second + carried})
        self.stays(self.queue.carry, None)

    def test_by_their_numbers(self):
        letters = {9: (1, 1), 2: (2, 2), 10: (3,), 0: (0,)}
        first = [("from", 0, ())] + [("carried", number, body) for number, body in letters.items()]
        self.start({"s0": first, "s1": [("from", 11, ())]})
        self.stays(self.queue.carry, 4)
        self.written({"s1": [("from", 11, ())] + [("carried", number, letters[number]) for number in (0, 2, 9, 10)]})

    def test_each_count_of_times(self):
        rows = [("from", 0, ())] + [("carried", number, (number, 5)) for number in range(10)]
        self.start({"s0": rows, "s1": [("from", 10, ())]})
        self.stays(self.queue.carry, 10)
        self.written({"s1": [("from", 10, ())] + rows[1:]})

    def test_the_longest_body(self):
        body = (255,) * 60
        self.start({"s0": [("from", 0, ()), ("put", 0, body)], "s1": [("from", 1, ())]})
        self.stays(self.queue.carry, 1)
        self.written({"s1": [("from", 1, ()), ("carried", 0, (0,) + body)]})

    def test_a_first_segment_without_letters(self):
        second = [("from", 1, ()), ("put", 1, A), ("done", 0, ())]
        self.start({"s4": [("from", 0, ()), ("put", 0, A)], "s5": second})
        self.stays(self.queue.carry, 0)
        self.written({"s5": second})

    def test_the_first_of_several_alone(self):
        self.start(one_each(5, 4))
        self.stays(self.queue.carry, 1)
        segments = one_each(5, 4)
        segments.pop("s5")
        segments["s8"] += [("carried", 5, (0, 5))]
        self.written(segments)
        self.stays(self.queue.carry, 1)
        segments.pop("s6")
        segments["s8"] += [("carried", 6, (0, 6))]
        self.written(segments)

    def test_letters_that_were_carried_away_are_not_carried_again(self):
        segments = {"s0": [("from", 0, ()), ("put", 0, A), ("put", 1, B)]}
        segments["s1"] = [("from", 2, ()), ("carried", 0, (0, 65))]
        self.start(segments)
        self.stays(self.queue.carry, 1)
        self.written({"s1": segments["s1"] + [("carried", 1, (0, 66, 67))]})

    def test_each_letter_is_a_writing_of_its_own(self):
        first = [("from", 0, ()), ("put", 0, A), ("put", 1, B), ("put", 2, ())]
        # Behind its first row, 7 bytes, and a carried one, 9, 10 or 8 bytes.
        for most, segments in (
            (7, {"s2": [("carried", 0, (0, 65))], "s3": [("carried", 1, (0, 66, 67))], "s4": [("carried", 2, (0,))]}),
            (16, {"s1": [("carried", 0, (0, 65))], "s2": [("carried", 1, (0, 66, 67))], "s3": [("carried", 2, (0,))]}),
            (17, {"s1": [("carried", 0, (0, 65)), ("carried", 1, (0, 66, 67))], "s2": [("carried", 2, (0,))]}),
            (26, {"s1": [("carried", 0, (0, 65)), ("carried", 1, (0, 66, 67))], "s2": [("carried", 2, (0,))]}),
            (27, {"s1": [("carried", 0, (0, 65)), ("carried", 1, (0, 66, 67)), ("carried", 2, (0,))]}),
        ):
            with self.subTest(most):
                self.start({"s0": first, "s1": [("from", 3, ())]}, most=most)
                self.stays(self.queue.carry, 3)
                written = {"s1": [("from", 3, ())]}
                for name, rows in segments.items():
                    written[name] = [("from", 3, ())] + rows
                self.written(written)

    def test_held_letters_stay_held(self):
        self.start({"s0": [("from", 0, ()), ("put", 0, A), ("put", 1, B)], "s1": [("from", 2, ())]})
        self.queue.take("ann")
        self.queue.wait(3)
        self.stays(self.queue.carry, 2)
        self.assertEqual(self.queue.held(), [(0, "ann")])
        rows = [("from", 2, ()), ("out", 0, ()), ("carried", 0, (1, 65)), ("carried", 1, (0, 66, 67))]
        self.written({"s1": rows})
        self.assertEqual(self.queue.wait(2), [])
        self.assertEqual(self.queue.wait(1), [(0, A, 1)])

    def test_carried_letters_go_on_as_before(self):
        self.start({"s0": [("from", 0, ()), ("put", 0, A), ("out", 0, ())], "s1": [("from", 1, ())]}, tries=2)
        self.queue.carry()
        self.assertEqual(self.queue.take("ann"), (0, A, 2))
        self.queue.give_back("ann", 0)
        self.assertEqual(self.queue.dead(), [0])
        self.queue.revive(0)
        self.assertEqual(self.queue.take("ann"), (0, A, 1))
        self.queue.done("ann", 0)
        self.assertEqual(Queue(self.disk, 9, 5, 2).letters(), [])

    def test_letters_handed_out_more_often_than_a_byte_tells(self):
        """No queue does so; the byte then tells 9, as often as no queue hands out more, and no letter goes."""
        first = [("from", 0, ()), ("put", 0, A)] + [("out", 0, ())] * 12
        self.start({"s0": first, "s1": [("from", 1, ())]})
        self.assertEqual(self.queue.letters(), [(0, A, 12)])
        self.assertEqual(self.queue.carry(), 1)
        self.written({"s1": [("from", 1, ()), ("carried", 0, (9, 65))]})
        self.assertEqual((self.queue.letters(), self.queue.dead()), ([(0, A, 9)], [0]))
        self.assertEqual(Queue(self.disk, 9, 5, 9).letters(), [(0, A, 9)])

    def test_carrying_makes_room(self):
        self.disk = Disk(None)
        self.queue = Queue(self.disk, 60, 5, 9)
        self.queue.put(B)
        self.queue.take("bob")
        for number in range(1, 30):
            self.queue.put(A)
            self.queue.take("ann")
            self.queue.done("ann", number)
        self.stays(self.queue.sweep, 0)
        self.stays(self.queue.carry, 1)
        many = len(self.queue.sizes())
        self.assertGreater(many, 5)
        self.stays(self.queue.sweep, many - 1)
        self.assertEqual(len(self.queue.sizes()), 1)

    def test_the_next_number_behind_all_letters_carried_done_and_swept(self):
        self.disk = Disk(None)
        self.queue = Queue(self.disk, 20, 5, 9)
        for number in range(6):
            self.queue.put((number,))
        for _ in range(10):
            self.queue.carry()
        for number in range(6):
            self.assertEqual(self.queue.take("bob"), (number, (number,), 1))
            self.queue.done("bob", number)
        self.queue.sweep()
        again = Queue(self.disk, 20, 5, 9)
        self.assertEqual((again.letters(), again.coming(), again.put(A)), ([], 6, 6))

    def test_stopped(self):
        segments = {"s0": [("from", 0, ()), ("put", 0, A), ("put", 1, B)], "s1": [("from", 2, ())]}
        # 9 and 10 bytes, and the drop.
        for steps in range(20):
            self.start(segments)
            self.disk.go_on(steps)
            self.assertRaises(Stopped, self.queue.carry)
            more = bytes_of_rows([("carried", 0, (0, 65)), ("carried", 1, (0, 66, 67))])
            whole = {name: bytes_of_rows(rows) for name, rows in segments.items()}
            self.assertEqual(files_of(self.disk), {"s0": whole["s0"], "s1": whole["s1"] + more[:steps]})
            self.disk.go_on(None)
            # Those that were written are in the last segment by now.
            self.stays(self.queue.carry, 2 if steps < 9 else 1 if steps < 19 else 0)
            self.assertEqual(files_of(self.disk), {"s1": whole["s1"] + more})
        self.start(segments)
        self.disk.go_on(20)
        self.stays(self.queue.carry, 2)


if __name__ == "__main__":
    unittest.main()
