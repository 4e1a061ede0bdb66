import unittest

from queuehold.disk import Disk
from queuehold.errors import BadDeed
from queuehold.queues import Queue
from queuehold.runs import do, run
from samples import HUGE, Stranger, bytes_of_rows, disk_of_rows, files_of, no_bodies, no_hands, no_numbers

A = (65,)
B = (66, 67)

NO_DEEDS = [
    None, True, False, 0, 1, HUGE, "", "sweep", "put", [], ["sweep"], ["put", A], {}, {"put": A}, set(), b"", len,
    object(), Stranger(), range(1),
    (), ("",), ("x",), ("Sweep",), ("CARRY",), ("sweep ",), (" put", A), ("put_all", (A,)), ("give_back", "a", 0),
    ("revive", 0), ("letters",), ("ready",), ("out", 0), ("from", 0), (None,), (0,), (True,), (Stranger(),),
    (["put"], A), (("put",), A), ({}, A), (A,), (A, "put"), (HUGE, A),
    ("put",), ("put", A, B), ("put", A, None), ("all",), ("all", A, B), ("all", (A,), 1), ("take",), ("take", "a", 0),
    ("done",), ("done", "a"), ("done", "a", 0, 0), ("back",), ("back", "a"), ("back", "a", 0, 0), ("wait",),
    ("wait", 1, 1), ("new",), ("new", 0, 0), ("sweep", None), ("sweep", 0), ("sweep", ()), ("carry", 0), ("carry", "a"),
]


class Spy:
    """A queue in which nothing may be done."""

    def __getattr__(self, name):
        raise AssertionError(name)


class RunCase(unittest.TestCase):
    def setUp(self):
        self.disk = Disk(None)
        self.queue = Queue(self.disk, 2000, 5, 1)

    def told(self, deed, answer):
        told = do(self.queue, deed)
        self.assertEqual(told, answer)
        self.assertIs(told.__class__, answer.__class__)

    def all_of(self):
        queue = self.queue
        told = (queue.letters(), queue.ready(), queue.dead(), queue.held(), queue.coming(), queue.clock())
        return (told, files_of(self.disk), self.disk.steps(), self.disk.left())


class DoTest(RunCase):
    def test_each_deed_tells_what_the_queue_tells(self):
        self.told(("put", A), 0)
        self.told(("all", (B, ())), [1, 2])
        self.told(("take", "ann"), (0, A, 1))
        self.told(("take", "bob"), (1, B, 1))
        self.told(("done", "bob", 1), None)
        self.assertEqual(self.queue.letters(), [(0, A, 1), (2, (), 0)])
        self.told(("back", "ann", 0), None)
        self.assertEqual((self.queue.held(), self.queue.dead()), ([], [0]))
        self.told(("new", 0), None)
        self.assertEqual(self.queue.letters(), [(0, A, 0), (2, (), 0)])
        self.told(("take", "cid"), (0, A, 1))
        self.told(("wait", 5), [])
        self.told(("wait", 1), [(0, A, 1)])
        self.assertEqual(self.queue.clock(), 6)
        self.told(("take", "cid"), (2, (), 1))
        self.told(("take", "cid"), None)
        self.told(("sweep",), 0)
        self.told(("carry",), None)
        rows = [("from", 0, ()), ("put", 0, A), ("part", 1, B), ("part", 2, ()), ("deal", 1, (2,)), ("out", 0, ()),
                ("out", 1, ()), ("done", 1, ()), ("new", 0, ()), ("out", 0, ()), ("out", 2, ())]
        self.assertEqual(files_of(self.disk), {"s0": bytes_of_rows(rows)})

    def test_sweeping_and_carrying_of_several_segments(self):
        segments = {"s0": [("from", 0, ())], "s1": [("from", 0, ())], "s2": [("from", 0, ()), ("put", 0, A)]}
        segments["s3"] = [("from", 1, ())]
        self.disk = disk_of_rows(segments)
        self.queue = Queue(self.disk, 2000, 5, 1)
        self.told(("sweep",), 2)
        self.assertEqual(self.disk.names(), ["s2", "s3"])
        self.told(("carry",), 1)
        self.assertEqual(self.disk.names(), ["s3"])

    def test_stopped(self):
        self.queue.put_all((A, B, A))
        self.queue.take("ann")
        self.queue.take("ann")
        self.queue.give_back("ann", 1)
        self.disk.go_on(0)
        ahead = self.all_of()
        for deed in (("put", A), ("all", (A, B)), ("take", "bob"), ("done", "ann", 0), ("new", 1)):
            self.told(deed, "stopped")
            self.assertEqual(self.all_of(), ahead)
        self.told(("back", "ann", 0), None)
        self.told(("wait", 3), [])
        self.told(("sweep",), 0)
        self.told(("carry",), None)

    def test_sweeping_and_carrying_stopped(self):
        for word in ("sweep", "carry"):
            self.disk = disk_of_rows({"s0": [("from", 0, ())], "s1": [("from", 0, ())]}, 0)
            self.queue = Queue(self.disk, 2000, 5, 1)
            self.told((word,), "stopped")
            self.disk.go_on(1)
            self.told((word,), 1 if word == "sweep" else 0)

    def test_refused(self):
        self.queue.put_all((A, B))
        self.queue.take("ann")
        deeds = [("put", body) for body in no_bodies()] + [("all", (A, body)) for body in no_bodies()]
        deeds += [("all", ()), ("all", (A,) * 10), ("all", [A]), ("all", A), ("all", None)]
        deeds += [("take", hand) for hand in no_hands()]
        deeds += [("done", hand, 0) for hand in no_hands()] + [("back", hand, 0) for hand in no_hands()]
        deeds += [("done", "ann", 1), ("done", "bob", 0), ("done", "ann", None), ("back", "ann", 1), ("back", "bob", 0)]
        deeds += [("done", "ann", thing) for thing in no_numbers()] + [("back", "ann", thing) for thing in no_numbers()]
        deeds += [("wait", many) for many in no_numbers() + [None, 0, -1, 100, HUGE]]
        deeds += [("new", number) for number in no_numbers() + [None, 0, 1, 2, -1, HUGE]]
        for left in (None, 0):
            self.disk.go_on(left)
            ahead = self.all_of()
            for deed in deeds:
                self.told(deed, "refused")
            self.assertEqual(self.all_of(), ahead)

    def test_what_is_no_deed(self):
        self.queue.put(A)
        ahead = self.all_of()
        for deed in NO_DEEDS:
            with self.assertRaises(BadDeed) as caught:
                do(self.queue, deed)
            self.assertIs(caught.exception.__class__, BadDeed)
            self.assertRaises(BadDeed, do, Spy(), deed)
        self.assertEqual(self.all_of(), ahead)

    def test_a_disk_without_steps_is_told_behind_what_is_no_deed(self):
        self.disk.go_on(0)
        for deed in NO_DEEDS:
            self.assertRaises(BadDeed, do, self.queue, deed)


class ManyTest(RunCase):
    DEEDS = [("put", A), ("take", "ann"), ("done", "bob", 0), ("all", (A, B)), ("done", "ann", 0), ("wait", 9),
             ("new", 5), ("take", "bob"), ("sweep",), ("carry",)]
    TOLD = [0, (0, A, 1), "refused", [1, 2], None, [], "refused", (1, A, 1), 0, None]

    def test_a_run(self):
        deeds = list(self.DEEDS)
        told = run(self.queue, deeds)
        self.assertEqual(told, self.TOLD)
        self.assertIs(told.__class__, list)
        self.assertEqual(deeds, self.DEEDS)
        self.assertEqual(self.queue.letters(), [(1, A, 1), (2, B, 0)])

    def test_a_run_of_nothing(self):
        self.assertEqual(run(self.queue, []), [])
        self.assertEqual(run(Spy(), []), [])

    def test_a_run_up_to_the_first_that_is_stopped(self):
        # The steps that the deeds need: 8, 7, none, 8 + 9 + 8, 7, none, none, 7, none, none.
        for steps in range(60):
            disk = Disk(None)
            queue = Queue(disk, 2000, 5, 1)
            disk.go_on(steps)
            # How many deeds are told with less steps than these.
            bounds = {8: 0, 15: 1, 40: 3, 47: 4, 54: 7, 60: 10}
            many = bounds[min(bound for bound in bounds if steps < bound)]
            self.assertEqual(run(queue, list(self.DEEDS)), self.TOLD[:many])

    def test_nothing_is_done_behind_the_first_that_is_stopped(self):
        self.disk.go_on(0)
        self.assertEqual(run(self.queue, [("wait", 1), ("put", A), ("wait", 1), ("wait", 1)]), [[]])
        self.assertEqual(self.queue.clock(), 1)

    def test_a_run_goes_on_behind_what_is_refused(self):
        deeds = [("put", None), ("put", A), ("wait", 0), ("put", B)]
        self.assertEqual(run(self.queue, deeds), ["refused", 0, "refused", 1])

    def test_what_is_no_deed_is_told_ahead_of_any_deed(self):
        self.queue.put(A)
        for left in (None, 0, 3):
            self.disk.go_on(left)
            ahead = self.all_of()
            for deed in NO_DEEDS:
                behind = [("wait", 3), ("take", "ann"), deed, ("put", A)]
                for deeds in ([deed], [("put", A), deed], behind, [deed, ("put", A)]):
                    with self.assertRaises(BadDeed):
                        run(self.queue, deeds)
                    self.assertRaises(BadDeed, run, Spy(), deeds)
            self.assertEqual(self.all_of(), ahead)

    def test_deeds_that_are_no_list(self):
        wrong = [None, True, 0, HUGE, "", "put", (), (("put", A),), ("put", A), ("sweep",), {}, {("sweep",): 1}, set(),
                 b"", len, Stranger(), object(), iter([]), range(0)]
        ahead = self.all_of()
        for deeds in wrong:
            with self.assertRaises(BadDeed) as caught:
                run(self.queue, deeds)
            self.assertIs(caught.exception.__class__, BadDeed)
        self.assertEqual(self.all_of(), ahead)

    def test_the_list_is_a_new_one_each_time(self):
        told = run(self.queue, [("sweep",)])
        told.append("more")
        self.assertEqual(run(self.queue, [("sweep",)]), [0])
        self.assertEqual(run(self.queue, []), [])


if __name__ == "__main__":
    unittest.main()
