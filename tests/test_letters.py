import unittest

from queuehold.disk import Disk
from queuehold.errors import BadBody, BadHand, BadNumber, BadRow, NotHeld, Stopped
from queuehold.queues import Queue
from samples import HUGE, Stranger, bytes_of_rows, disk_of_rows, files_of, no_bodies, no_hands, no_numbers

A = (65,)
B = (66, 67)
FROM_0 = ("from", 0, ())


def all_of(queue, disk):
    told = (queue.letters(), queue.ready(), queue.dead(), queue.held(), queue.coming(), queue.clock(), queue.sizes())
    return (told, files_of(disk), disk.steps(), disk.left())


class QueueCase(unittest.TestCase):
    def setUp(self):
        self.start(2000, 5, 3)

    def start(self, most, hold, tries):
        self.disk = Disk(None)
        self.queue = Queue(self.disk, most, hold, tries)

    def start_with(self, rows, most, hold, tries):
        self.disk = disk_of_rows({"s0": rows})
        self.queue = Queue(self.disk, most, hold, tries)

    def refused(self, error, call):
        ahead = all_of(self.queue, self.disk)
        with self.assertRaises(error) as caught:
            call()
        self.assertIs(caught.exception.__class__, error)
        self.assertEqual(all_of(self.queue, self.disk), ahead)

    def refused_also_stopped(self, error, call):
        self.refused(error, call)
        self.disk.go_on(0)
        self.refused(error, call)
        self.disk.go_on(None)

    def written(self, *segments):
        files = {f"s{place}": bytes_of_rows(rows) for place, rows in enumerate(segments)}
        self.assertEqual(files_of(self.disk), files)
        self.assertEqual(self.queue.sizes(), [len(some) for some in files.values()])

    def states(self, ready, dead, held):
        self.assertEqual((self.queue.ready(), self.queue.dead(), self.queue.held()), (ready, dead, held))


class PutTest(QueueCase):
    def test_bytes_worked_out_by_hand(self):
        self.assertEqual(self.queue.put((65, 66)), 0)
        # 1 + 2 + 65 + 66 = 134; 1*1 + 5*2 + 6*65 + 7*66 = 863 = 3*256 + 95
        put = (134, 95, 1, 0, 0, 0, 2, 65, 66)
        self.assertEqual(self.disk.read("s0"), (4, 4, 4, 0, 0, 0, 0) + put)
        self.assertEqual(self.queue.put_all(((), (7,))), [1, 2])
        # 5 + 1 = 6; 5 + 4 = 9. 5 + 2 + 1 + 7 = 15; 5 + 8 + 5 + 42 = 60. 6 + 1 + 1 + 2 = 10; 6 + 4 + 5 + 12 = 27
        parts = (6, 9, 5, 0, 0, 1, 0) + (15, 60, 5, 0, 0, 2, 1, 7)
        deal = (10, 27, 6, 0, 0, 1, 1, 2)
        self.assertEqual(self.disk.read("s0"), (4, 4, 4, 0, 0, 0, 0) + put + parts + deal)
        self.assertEqual(self.queue.take("a"), (0, (65, 66), 1))
        self.queue.done("a", 0)
        self.assertEqual(self.disk.read("s0")[-14:], (2, 2, 2, 0, 0, 0, 0) + (3, 3, 3, 0, 0, 0, 0))

    def test_putting_one_behind_the_other(self):
        rows = [FROM_0]
        for number, body in enumerate([A, B, (), (255,) * 60, (0,), (0,) * 59]):
            self.assertEqual(self.queue.coming(), number)
            self.assertEqual(self.queue.put(body), number)
            rows.append(("put", number, body))
            self.written(rows)
        self.assertEqual(self.queue.letters(), [(number, body, 0) for kind, number, body in rows[1:]])
        self.states([0, 1, 2, 3, 4, 5], [], [])
        self.assertEqual(self.queue.coming(), 6)

    def test_numbers_go_on_from_the_next_one(self):
        self.start_with([("from", 500, ())], 2000, 5, 3)
        self.assertEqual(self.queue.put(A), 500)
        self.assertEqual(self.queue.put_all((A, B)), [501, 502])
        self.assertEqual(self.queue.coming(), 503)

    def test_putting_several(self):
        rows = [FROM_0]
        first = 0
        for many in range(1, 10):
            bodies = tuple((many,) * place for place in range(many))
            numbers = list(range(first, first + many))
            told = self.queue.put_all(bodies)
            self.assertEqual(told, numbers)
            self.assertIs(told.__class__, list)
            rows += [("part", number, body) for number, body in zip(numbers, bodies)]
            rows.append(("deal", first, (many,)))
            self.written(rows)
            first += many
        self.assertEqual(self.queue.coming(), 45)
        self.assertEqual(self.queue.ready(), list(range(45)))
        self.assertEqual(self.queue.letters(), [(n, body, 0) for kind, n, body in rows if kind == "part"])

    def test_the_longest_bodies_of_several(self):
        bodies = ((255,) * 60,) * 9
        self.assertEqual(self.queue.put_all(bodies), list(range(9)))
        self.assertEqual(self.queue.sizes(), [7 + 9 * 67 + 8])

    def test_the_last_numbers(self):
        self.start_with([("from", 999996, ())], 2000, 5, 3)
        self.assertEqual(self.queue.put_all((A, B)), [999996, 999997])
        self.assertEqual((self.queue.put(A), self.queue.put(B)), (999998, 999999))
        self.assertEqual(self.queue.coming(), 1000000)
        self.assertEqual(self.queue.take("a"), (999996, A, 1))

    def test_behind_the_last_number(self):
        """No row can tell a higher number: no more is put, but the letters that are there go on as before."""
        for most in (1, 2000):
            self.start_with([("from", 999998, ())], most, 5, 1)
            for call in (lambda: self.queue.put_all((A, B, A)), lambda: self.queue.put_all((A,) * 9)):
                self.refused(BadRow, call)
            self.assertEqual(self.queue.put_all((A, B)), [999998, 999999])
            for call in (lambda: self.queue.put(A), lambda: self.queue.put_all((A,))):
                self.refused(BadRow, call)
            self.queue.take("ann")
            self.queue.take("ann")
            self.queue.done("ann", 999998)
            self.queue.give_back("ann", 999999)
            self.queue.revive(999999)
            self.queue.carry()
            self.queue.sweep()
            again = Queue(self.disk, most, 5, 1)
            self.assertEqual((again.letters(), again.coming()), ([(999999, B, 0)], 1000000))

    def test_bodies_that_are_none(self):
        self.queue.put(A)
        for thing in no_bodies():
            self.refused_also_stopped(BadBody, lambda: self.queue.put(thing))

    def test_several_that_are_none(self):
        self.queue.put(A)
        for thing in no_bodies():
            for bodies in ((thing,), (A, thing), (thing, A), (A, B, thing, A), (A,) * 8 + (thing,), (thing,) * 2):
                self.refused(BadBody, lambda: self.queue.put_all(bodies))
        wrong = [None, True, 0, 5, HUGE, "", "abc", [], [A], [A, B], {}, {A: B}, set(), b"", b"ab", len, Stranger(),
                 (), (A,) * 10, (A,) * 11, ((),) * 10, (A,) * 100, A, B, (1, 2), range(2)]
        for bodies in wrong:
            self.refused_also_stopped(BadBody, lambda: self.queue.put_all(bodies))


class SegmentsTest(QueueCase):
    def test_a_new_segment_is_begun_when_the_last_has_most_bytes(self):
        # s0 has 7 bytes, and 15 behind a put of one byte.
        for most, segments in (
            (7, [[FROM_0], [("from", 0, ()), ("put", 0, A)], [("from", 1, ()), ("put", 1, A)]]),
            (8, [[FROM_0, ("put", 0, A)], [("from", 1, ()), ("put", 1, A)]]),
            (15, [[FROM_0, ("put", 0, A)], [("from", 1, ()), ("put", 1, A)]]),
            (16, [[FROM_0, ("put", 0, A), ("put", 1, A)]]),
            (1, [[FROM_0], [("from", 0, ()), ("put", 0, A)], [("from", 1, ()), ("put", 1, A)]]),
        ):
            with self.subTest(most):
                self.start(most, 5, 3)
                self.queue.put(A)
                self.queue.put(A)
                self.written(*segments)

    def test_several_together_are_in_one_segment(self):
        for most in (1, 7):
            self.start(most, 5, 3)
            self.queue.put_all((A, B, A))
            parts = [("part", 0, A), ("part", 1, B), ("part", 2, A), ("deal", 0, (3,))]
            self.written([FROM_0], [FROM_0] + parts)
            self.queue.put_all((B,))
            self.written([FROM_0], [FROM_0] + parts, [("from", 3, ()), ("part", 3, B), ("deal", 3, (1,))])

    def test_each_deed_that_writes_begins_one(self):
        self.start(1, 5, 1)
        segments = [[FROM_0]]

        def begun(*rows):
            segments.append([("from", self.queue.coming(), ())] + list(rows))
            self.written(*segments)

        self.queue.put(A)
        segments.append([FROM_0, ("put", 0, A)])
        self.written(*segments)
        self.queue.put(B)
        segments.append([("from", 1, ()), ("put", 1, B)])
        self.written(*segments)
        self.queue.take("ann")
        begun(("out", 0, ()))
        self.queue.take("ann")
        begun(("out", 1, ()))
        self.queue.done("ann", 0)
        begun(("done", 0, ()))
        self.queue.give_back("ann", 1)
        self.queue.wait(9)
        self.assertIsNone(self.queue.take("ann"))
        self.written(*segments)
        self.queue.revive(1)
        begun(("new", 1, ()))

    def test_more_than_ten_segments(self):
        self.start(1, 5, 3)
        for number in range(12):
            self.queue.put((number,))
        segments = [[FROM_0]] + [[("from", number, ()), ("put", number, (number,))] for number in range(12)]
        self.written(*segments)
        self.assertEqual(self.queue.sizes(), [7] + [15] * 12)
        again = Queue(self.disk, 1, 5, 3)
        self.assertEqual((again.letters(), again.coming()), (self.queue.letters(), 12))
        self.assertEqual(again.put(A), 12)
        self.written(*(segments + [[("from", 12, ()), ("put", 12, A)]]))

    def test_the_last_number_begins_one_too(self):
        self.start_with([("from", 999999, ())], 1, 5, 3)
        self.assertEqual(self.queue.put(A), 999999)
        self.written([("from", 999999, ())], [("from", 999999, ()), ("put", 999999, A)])

    def test_what_is_refused_begins_none(self):
        self.start(1, 5, 3)
        self.queue.put(A)
        for call in (lambda: self.queue.put(None), lambda: self.queue.put_all(())):
            self.refused(BadBody, call)
        self.refused(NotHeld, lambda: self.queue.done("ann", 0))
        self.refused(BadNumber, lambda: self.queue.revive(0))
        self.refused(BadHand, lambda: self.queue.take(""))
        self.written([FROM_0], [FROM_0, ("put", 0, A)])


class HandsTest(QueueCase):
    def test_the_ready_letter_with_the_least_number_is_handed_out(self):
        rows = [FROM_0]
        for body in (A, B, ()):
            rows.append(("put", self.queue.put(body), body))
        self.assertEqual(self.queue.take("ann"), (0, A, 1))
        self.written(rows + [("out", 0, ())])
        self.states([1, 2], [], [(0, "ann")])
        self.assertEqual(self.queue.take("bob"), (1, B, 1))
        self.assertEqual(self.queue.take("ann"), (2, (), 1))
        self.written(rows + [("out", 0, ()), ("out", 1, ()), ("out", 2, ())])
        self.states([], [], [(0, "ann"), (1, "bob"), (2, "ann")])
        self.assertEqual(self.queue.letters(), [(0, A, 1), (1, B, 1), (2, (), 1)])
        self.assertEqual(self.queue.coming(), 3)

    def test_none_where_none_is_ready(self):
        steps = self.disk.steps()
        self.disk.go_on(0)
        self.assertIsNone(self.queue.take("ann"))
        self.disk.go_on(None)
        self.queue.put(A)
        self.queue.take("ann")
        files = files_of(self.disk)
        self.assertIsNone(self.queue.take("bob"))
        self.assertIsNone(self.queue.take("ann"))
        self.assertEqual(files_of(self.disk), files)
        self.assertEqual(self.disk.steps(), steps + 8 + 7)

    def test_hands_are_1_to_6_letters(self):
        hands = list("abcdefghijklmnopqrstuvwxyz") + ["ab", "abcdef", "zzzzzz", "aaaaa", "mno"]
        for number, hand in enumerate(hands):
            self.queue.put(A)
            self.assertEqual(self.queue.take(hand), (number, A, 1))
        self.assertEqual(self.queue.held(), list(enumerate(hands)))

    def test_done_takes_the_letter_away(self):
        for body in (A, B):
            self.queue.put(body)
        self.queue.take("ann")
        self.queue.take("bob")
        self.assertIsNone(self.queue.done("bob", 1))
        rows = [FROM_0, ("put", 0, A), ("put", 1, B), ("out", 0, ()), ("out", 1, ()), ("done", 1, ())]
        self.written(rows)
        self.states([], [], [(0, "ann")])
        self.assertEqual(self.queue.letters(), [(0, A, 1)])
        self.assertIsNone(self.queue.done("ann", 0))
        self.written(rows + [("done", 0, ())])
        self.assertEqual((self.queue.letters(), self.queue.coming()), ([], 2))
        self.states([], [], [])

    def test_given_back_is_ready_again_without_a_row(self):
        self.queue.put(A)
        self.queue.put(B)
        self.queue.take("ann")
        self.queue.take("ann")
        files = files_of(self.disk)
        self.disk.go_on(0)
        self.assertIsNone(self.queue.give_back("ann", 0))
        self.disk.go_on(None)
        self.assertEqual(files_of(self.disk), files)
        self.states([0], [], [(1, "ann")])
        self.assertEqual(self.queue.letters(), [(0, A, 1), (1, B, 1)])
        self.assertEqual(self.queue.take("bob"), (0, A, 2))
        self.states([], [], [(0, "bob"), (1, "ann")])

    def test_a_letter_handed_out_as_often_as_tries_is_dead(self):
        for tries in range(1, 10):
            with self.subTest(tries):
                self.start(2000, 5, tries)
                self.queue.put(A)
                self.queue.put(B)
                for times in range(1, tries + 1):
                    self.assertEqual(self.queue.take("ann"), (0, A, times))
                    # As long as a hand holds it, it is not dead.
                    self.states([1], [], [(0, "ann")])
                    self.queue.give_back("ann", 0)
                    self.states([0, 1] if times < tries else [1], [] if times < tries else [0], [])
                self.assertEqual(self.queue.take("ann"), (1, B, 1))
                self.assertEqual(self.queue.letters(), [(0, A, tries), (1, B, 1)])

    def test_a_letter_at_its_last_try_can_be_done(self):
        self.start(2000, 5, 1)
        self.queue.put(A)
        self.queue.take("ann")
        self.queue.done("ann", 0)
        self.assertEqual(self.queue.letters(), [])

    def test_hands_that_are_none(self):
        self.queue.put(A)
        self.queue.take("ann")
        for hand in no_hands():
            self.refused_also_stopped(BadHand, lambda: self.queue.take(hand))
            for number in (0, 1, None, True, "x"):
                self.refused_also_stopped(BadHand, lambda: self.queue.done(hand, number))
                self.refused_also_stopped(BadHand, lambda: self.queue.give_back(hand, number))

    def test_a_hand_that_is_none_is_told_also_where_none_is_ready(self):
        self.refused(BadHand, lambda: self.queue.take("A"))

    def test_letters_that_this_hand_does_not_hold(self):
        for body in (A, B, A, B):
            self.queue.put(body)
        self.queue.take("ann")
        self.queue.take("ann")
        self.queue.take("bob")
        self.queue.done("ann", 0)
        cases = [("ann", 0), ("ann", 2), ("ann", 3), ("ann", 4), ("bob", 1), ("bob", 0), ("zed", 1), ("zed", 2),
                 ("an", 1), ("anna", 1), ("ann", -1), ("ann", 1000000), ("ann", HUGE), ("ann", -HUGE), ("ann", None)]
        cases += [("ann", thing) for thing in no_numbers()] + [("ann", (1, B, 1)), ("ann", "1"), ("ann", (1,))]
        for hand, number in cases:
            self.refused_also_stopped(NotHeld, lambda: self.queue.done(hand, number))
            self.refused_also_stopped(NotHeld, lambda: self.queue.give_back(hand, number))

    def test_true_and_false_are_no_numbers_of_letters(self):
        for number, thing in ((0, False), (1, True)):
            self.start(2000, 5, 1)
            self.queue.put(A)
            self.queue.put(B)
            self.queue.take("ann")
            self.queue.take("ann")
            self.refused(NotHeld, lambda: self.queue.done("ann", thing))
            self.refused(NotHeld, lambda: self.queue.give_back("ann", thing))
            self.queue.give_back("ann", number)
            self.refused(BadNumber, lambda: self.queue.revive(thing))
            self.refused(BadNumber, lambda: self.queue.wait(thing))

    def test_given_back_twice(self):
        self.queue.put(A)
        self.queue.take("ann")
        self.queue.give_back("ann", 0)
        self.refused(NotHeld, lambda: self.queue.give_back("ann", 0))
        self.refused(NotHeld, lambda: self.queue.done("ann", 0))
        self.queue.take("bob")
        self.refused(NotHeld, lambda: self.queue.give_back("ann", 0))

    def test_done_twice(self):
        self.queue.put(A)
        self.queue.take("ann")
        self.queue.done("ann", 0)
        self.refused(NotHeld, lambda: self.queue.done("ann", 0))
        self.refused(NotHeld, lambda: self.queue.give_back("ann", 0))


class WaitTest(QueueCase):
    def test_the_clock_goes_on_only_by_waiting(self):
        self.assertEqual(self.queue.clock(), 0)
        self.queue.put(A)
        self.queue.take("ann")
        self.queue.give_back("ann", 0)
        self.queue.sweep()
        self.queue.carry()
        self.assertEqual(self.queue.clock(), 0)
        clock = 0
        for many in (1, 99, 2, 50, 98):
            self.queue.wait(many)
            clock += many
            self.assertEqual(self.queue.clock(), clock)

    def test_a_letter_is_late_just_when_it_was_handed_out_longer_ago_than_hold(self):
        for hold in (0, 1, 2, 5, 98):
            with self.subTest(hold):
                self.start(2000, hold, 3)
                self.queue.put(A)
                self.queue.take("ann")
                if hold > 0:
                    self.assertEqual(self.queue.wait(hold), [])
                    self.assertEqual(self.queue.held(), [(0, "ann")])
                    self.assertEqual(self.queue.wait(1), [(0, A, 1)])
                else:
                    self.assertEqual(self.queue.held(), [(0, "ann")])
                    self.assertEqual(self.queue.wait(1), [(0, A, 1)])
                self.states([0], [], [])
                self.assertEqual(self.queue.clock(), hold + 1)

    def test_at_once_and_by_and_by(self):
        for hold in (0, 1, 7, 98):
            self.start(2000, hold, 3)
            self.queue.put(A)
            self.queue.take("ann")
            self.assertEqual(self.queue.wait(hold + 1), [(0, A, 1)])
        self.start(2000, 99, 3)
        self.queue.put(A)
        self.queue.take("ann")
        self.assertEqual(self.queue.wait(99), [])
        self.assertEqual(self.queue.wait(1), [(0, A, 1)])

    def test_each_letter_has_its_own_time(self):
        for body in (A, B, (), A):
            self.queue.put(body)
        self.queue.take("ann")
        self.queue.wait(2)
        self.queue.take("bob")
        self.queue.take("ann")
        self.assertEqual(self.queue.wait(3), [])
        self.queue.take("cid")
        self.assertEqual(self.queue.wait(1), [(0, A, 1)])
        self.states([0], [], [(1, "bob"), (2, "ann"), (3, "cid")])
        self.assertEqual(self.queue.wait(2), [(1, B, 1), (2, (), 1)])
        self.states([0, 1, 2], [], [(3, "cid")])
        self.assertEqual(self.queue.wait(2), [])
        self.assertEqual(self.queue.wait(1), [(3, A, 1)])
        self.assertEqual(self.queue.wait(99), [])

    def test_the_list_rises_whatever_was_handed_out_first(self):
        for body in (A, B, ()):
            self.queue.put(body)
        for _ in range(3):
            self.queue.take("ann")
        for number in (0, 1, 2):
            self.queue.give_back("ann", number)
        self.queue.take("ann")
        self.queue.take("ann")
        self.queue.take("bob")
        self.queue.give_back("ann", 0)
        self.queue.take("cid")
        self.assertEqual(self.queue.wait(6), [(0, A, 3), (1, B, 2), (2, (), 2)])
        self.states([1, 2], [0], [])

    def test_the_time_counts_anew_when_it_is_handed_out_anew(self):
        self.queue.put(A)
        self.queue.take("ann")
        self.queue.wait(4)
        self.queue.give_back("ann", 0)
        self.queue.take("ann")
        self.assertEqual(self.queue.wait(5), [])
        self.assertEqual(self.queue.wait(1), [(0, A, 2)])

    def test_a_late_letter_is_dead_behind_its_last_try(self):
        self.start(2000, 0, 1)
        self.queue.put(A)
        self.queue.take("ann")
        self.assertEqual(self.queue.wait(1), [(0, A, 1)])
        self.states([], [0], [])

    def test_a_late_letter_can_not_be_done(self):
        self.start(2000, 0, 2)
        self.queue.put(A)
        self.queue.take("ann")
        self.queue.wait(1)
        self.refused(NotHeld, lambda: self.queue.done("ann", 0))
        self.refused(NotHeld, lambda: self.queue.give_back("ann", 0))
        self.assertEqual(self.queue.take("bob"), (0, A, 2))
        self.refused(NotHeld, lambda: self.queue.done("ann", 0))

    def test_waiting_is_no_step(self):
        self.queue.put(A)
        self.queue.take("ann")
        files = files_of(self.disk)
        self.disk.go_on(0)
        self.assertEqual(self.queue.wait(6), [(0, A, 1)])
        self.assertEqual(files_of(self.disk), files)

    def test_waits_that_are_none(self):
        self.start(2000, 0, 3)
        self.queue.put(A)
        self.queue.take("ann")
        for many in no_numbers() + [None, 0, -1, -5, 100, 101, 1000, HUGE, -HUGE]:
            self.refused_also_stopped(BadNumber, lambda: self.queue.wait(many))


class ReviveTest(QueueCase):
    def setUp(self):
        self.start(2000, 5, 1)
        self.rows = [FROM_0]
        for number, body in enumerate((A, B, (), A)):
            self.rows.append(("put", self.queue.put(body), body))
        for number in (0, 1, 2):
            self.queue.take("ann")
            self.rows.append(("out", number, ()))
        self.queue.give_back("ann", 0)
        self.queue.give_back("ann", 2)

    def test_a_revived_letter_was_handed_out_0_times(self):
        self.states([3], [0, 2], [(1, "ann")])
        self.assertIsNone(self.queue.revive(2))
        self.written(self.rows + [("new", 2, ())])
        self.states([2, 3], [0], [(1, "ann")])
        self.assertEqual(self.queue.letters(), [(0, A, 1), (1, B, 1), (2, (), 0), (3, A, 0)])
        self.assertEqual(self.queue.take("bob"), (2, (), 1))

    def test_letters_that_are_not_dead(self):
        for number in (1, 3, 4, 100, -1, 999999, 1000000, HUGE, -HUGE, None):
            self.refused_also_stopped(BadNumber, lambda: self.queue.revive(number))
        for number in no_numbers():
            self.refused_also_stopped(BadNumber, lambda: self.queue.revive(number))

    def test_a_letter_revived_is_not_dead(self):
        self.queue.revive(0)
        self.refused(BadNumber, lambda: self.queue.revive(0))
        self.queue.take("bob")
        self.refused(BadNumber, lambda: self.queue.revive(0))
        self.queue.done("bob", 0)
        self.refused(BadNumber, lambda: self.queue.revive(0))

    def test_revived_letters_stay_so(self):
        self.queue.revive(0)
        again = Queue(self.disk, 2000, 5, 1)
        self.assertEqual(again.letters(), [(0, A, 0), (1, B, 1), (2, (), 1), (3, A, 0)])
        self.assertEqual((again.ready(), again.dead()), ([0, 3], [1, 2]))


class StoppedTest(QueueCase):
    def test_deeds_that_write_are_stopped(self):
        self.start(2000, 5, 1)
        for body in (A, B, ()):
            self.queue.put(body)
        self.queue.take("ann")
        self.queue.take("ann")
        self.queue.give_back("ann", 1)
        self.disk.go_on(0)
        calls = [lambda: self.queue.put(A), lambda: self.queue.put_all((A,)), lambda: self.queue.take("bob"),
                 lambda: self.queue.done("ann", 0), lambda: self.queue.revive(1)]
        for call in calls:
            # Ahead of its first byte nothing at all is changed.
            self.refused(Stopped, call)
            self.refused(Stopped, call)
        self.disk.go_on(None)
        self.assertEqual((calls[0](), calls[1](), calls[2](), calls[3](), calls[4]()), (3, [4], (2, (), 1), None, None))

    def test_a_deed_with_just_as_many_steps_as_it_needs(self):
        self.start(20, 5, 1)
        for deed, steps in ((lambda: self.queue.put(A), 8), (lambda: self.queue.put_all((A, B)), 8 + 9 + 8),
                            (lambda: self.queue.take("ann"), 8 + 7), (lambda: self.queue.done("ann", 0), 7)):
            self.disk.go_on(steps)
            deed()
            self.assertEqual(self.disk.left(), 0)

    def test_a_queue_goes_on_behind_a_stop(self):
        """The same queue, when its disk goes on: what was under way is not there, and what is told then stays."""
        for most in (1, 15, 2000):
            for steps in range(1, 60):
                self.start(most, 5, 1)
                self.queue.put(A)
                self.disk.go_on(steps)
                try:
                    self.queue.put_all((B, B, B))
                except Stopped:
                    self.assertEqual((self.queue.letters(), self.queue.coming()), ([(0, A, 0)], 1))
                self.disk.go_on(None)
                number = self.queue.put((7,))
                self.assertIn(number, (1, 4))
                self.assertEqual(self.queue.take("ann"), (0, A, 1))
                self.queue.done("ann", 0)
                again = Queue(self.disk, most, 5, 1)
                self.assertEqual((again.letters(), again.coming()), (self.queue.letters(), number + 1))
                self.assertEqual(again.sizes(), self.queue.sizes())

    def test_stops_one_behind_the_other_on_the_same_queue(self):
        for steps in range(1, 12):
            self.start(10, 5, 1)
            told = []
            for number in range(200):
                self.disk.go_on(steps)
                try:
                    told.append((self.queue.put(A), A, 0))
                except Stopped:
                    pass
            self.assertEqual(self.queue.letters(), told)
            self.disk.go_on(None)
            told.append((self.queue.put(B), B, 0))
            self.assertEqual(Queue(self.disk, 10, 5, 1).letters(), told)


class OwnershipTest(QueueCase):
    def test_lists_are_new_ones_each_time(self):
        self.start(10, 0, 1)
        self.queue.put_all((A, B, A, B))
        for _ in range(3):
            self.queue.take("ann")
        self.queue.give_back("ann", 0)
        ahead = all_of(self.queue, self.disk)
        for call in (self.queue.letters, self.queue.ready, self.queue.dead, self.queue.held, self.queue.sizes):
            told = call()
            self.assertIs(told.__class__, list)
            self.assertTrue(told)
            told.clear()
            self.assertEqual(all_of(self.queue, self.disk), ahead)
        told = self.queue.put_all((A, B))
        told.append(99)
        late = self.queue.wait(1)
        late.clear()
        self.assertEqual(self.queue.wait(1), [])
        self.states([3, 4, 5], [0, 1, 2], [])

    def test_what_was_told_stays_as_it_was(self):
        self.queue.put(A)
        letters = self.queue.letters()
        ready = self.queue.ready()
        sizes = self.queue.sizes()
        taken = self.queue.take("ann")
        held = self.queue.held()
        self.queue.done("ann", 0)
        self.assertEqual((letters, ready, sizes), ([(0, A, 0)], [0], [15]))
        self.assertEqual((taken, held), ((0, A, 1), [(0, "ann")]))

    def test_queues_have_nothing_in_common(self):
        other = Queue(Disk(None), 2000, 5, 3)
        self.queue.put(A)
        self.queue.take("ann")
        self.queue.wait(3)
        self.assertEqual((other.letters(), other.coming(), other.clock(), other.held()), ([], 0, 0, []))
        self.assertEqual(other.put(B), 0)
        self.assertEqual(self.queue.letters(), [(0, A, 1)])

    def test_kinds_that_are_told(self):
        self.assertIs(self.queue.put(A).__class__, int)
        taken = self.queue.take("ann")
        self.assertEqual([part.__class__ for part in (taken,) + taken], [tuple, int, tuple, int])
        self.assertEqual([part.__class__ for part in self.queue.held()[0]], [int, str])
        self.assertIs(self.queue.letters()[0].__class__, tuple)
        self.assertIs(self.queue.coming().__class__, int)
        self.assertIs(self.queue.clock().__class__, int)
        self.assertIs(self.queue.wait(6)[0].__class__, tuple)


if __name__ == "__main__":
    unittest.main()
