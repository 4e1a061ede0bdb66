"""A disk that stops ahead of each step of many runs; a queue opened anew is held beside a model of the document."""

import random
import unittest

from chosen import settings_for, some_deed
from model import Model
from queuehold.disk import Disk
from queuehold.errors import Broken, Stopped
from queuehold.queues import Queue
from queuehold.runs import do, run
from samples import bytes_of_rows, copy_of, disk_of_rows, files_of

A = (65,)
B = (66, 67)
LONG = (7,) * 60

# Settings, and deeds that between them do all that writes, with and without new segments.
RUNS = [
    ((2000, 5, 3), [("put", A)]),
    ((2000, 5, 3), [("put", A), ("put", LONG), ("put", ())]),
    ((7, 5, 3), [("put", A), ("put", B), ("put", ())]),
    ((16, 5, 3), [("put", A), ("put", B), ("put", ()), ("put", A)]),
    ((2000, 5, 3), [("all", (A, B, ())), ("all", (LONG,)), ("all", ((),) * 9)]),
    ((7, 5, 3), [("all", (A, B, ())), ("all", (B,)), ("put", A), ("all", (A,) * 9)]),
    ((2000, 5, 1), [("all", (A, B)), ("take", "a"), ("take", "b"), ("back", "a", 0), ("new", 0), ("done", "b", 1),
                    ("take", "a"), ("wait", 9), ("new", 0), ("take", "c"), ("done", "c", 0)]),
    ((1, 5, 1), [("all", (A, B)), ("take", "a"), ("take", "b"), ("back", "a", 0), ("new", 0), ("done", "b", 1),
                 ("take", "a"), ("wait", 9), ("new", 0), ("take", "c"), ("done", "c", 0)]),
    ((1, 5, 3), [("put", A), ("put", B), ("take", "a"), ("take", "a"), ("done", "a", 0), ("sweep",), ("put", A),
                 ("done", "a", 1), ("sweep",), ("sweep",), ("put", B)]),
    ((20, 5, 3), [("all", (A, B, A)), ("take", "a"), ("put", B), ("carry",), ("carry",), ("take", "b"), ("carry",),
                  ("done", "a", 0), ("carry",), ("done", "b", 1), ("sweep",), ("carry",), ("put", A)]),
    ((1, 5, 3), [("all", (A, B, A)), ("carry",), ("take", "a"), ("carry",), ("carry",), ("carry",), ("carry",)]),
    ((40, 0, 2), [("all", (A, B, A)), ("take", "a"), ("wait", 1), ("take", "b"), ("put", A), ("carry",), ("wait", 1),
                  ("new", 0), ("put", A), ("carry",), ("sweep",), ("take", "a"), ("done", "a", 0), ("carry",)]),
    # All done and swept: the next number alone is left.
    ((8, 5, 3), [("put", A), ("take", "a"), ("done", "a", 0), ("sweep",), ("put", B), ("take", "a"), ("done", "a", 1),
                 ("carry",), ("carry",), ("sweep",)]),
]


def runs_by_chance():
    runs = []
    for seed in range(12):
        chance = random.Random(seed)
        settings = settings_for(chance)
        model = Model(*settings)
        deeds = []
        for _ in range(18):
            deed = some_deed(chance, model)
            model.do(deed)
            deeds.append(deed)
        runs.append((settings, deeds))
    return runs


def states_behind(settings, deeds):
    model = Model(*settings)
    states = [model.stays()]
    for deed in deeds:
        model.do(deed)
        states.append(model.stays())
    return states


def stays(queue):
    return (queue.letters(), queue.coming())


def opened(disk, settings, steps):
    disk.go_on(steps)
    try:
        return Queue(disk, *settings)
    except Stopped:
        return None


class StopCase(unittest.TestCase):
    def check_opened(self, disk, settings, states):
        """Opened on the disk as it is, a queue has one of these states; which one, it tells."""
        queue = opened(disk, settings, None)
        self.assertIn(stays(queue), states)
        self.assertEqual((queue.held(), queue.clock()), ([], 0))
        again = opened(copy_of(disk, None), settings, 0)
        self.assertEqual((stays(again), again.sizes()), (stays(queue), queue.sizes()))
        return queue

    def check_usable(self, queue, disk, settings):
        letters, coming = stays(queue)
        self.assertEqual(queue.put_all((A, B)), [coming, coming + 1])
        self.assertEqual(queue.put(B), coming + 2)
        told = letters + [(coming, A, 0), (coming + 1, B, 0), (coming + 2, B, 0)]
        self.assertEqual(stays(Queue(disk, *settings)), (told, coming + 3))

    def check_stops_while_opened(self, disk, settings, state):
        """Stopped ahead of each step of the opening, once or several times, it has the same state when it goes on."""
        whole = copy_of(disk, None)
        ahead = whole.steps()
        opened(whole, settings, None)
        for steps in range(whole.steps() - ahead):
            for more in ([], [0, 1, 2], [steps, 3]):
                other = copy_of(disk, 0)
                self.assertIsNone(opened(other, settings, steps))
                for left in more + [None]:
                    queue = opened(other, settings, left)
                    self.assertIn(queue and stays(queue), (None, state))
                self.assertEqual(files_of(other), files_of(whole))

    def done_until_stopped(self, disk, settings, deeds):
        try:
            queue = Queue(disk, *settings)
        except Stopped:
            return 0
        return len(run(queue, list(deeds)))

    def check_run(self, settings, deeds):
        states = states_behind(settings, deeds)
        found = set()
        steps = 0
        done = 0
        while done < len(deeds):
            disk = Disk(steps)
            done = self.done_until_stopped(disk, settings, deeds)
            torn = copy_of(disk, None)
            with self.subTest(settings=settings, deeds=deeds, steps=steps):
                queue = self.check_opened(disk, settings, states[done:done + 2])
                self.check_stops_while_opened(torn, settings, stays(queue))
                found.add(states.index(stays(queue)))
                self.check_usable(queue, disk, settings)
            steps += 1
        # Each state is met: what was told is never less than what stays.
        self.assertEqual(found, {states.index(state) for state in states})


class EveryStepTest(StopCase):
    def test_chosen_runs(self):
        for settings, deeds in RUNS:
            self.check_run(settings, deeds)

    def test_runs_by_chance(self):
        for settings, deeds in runs_by_chance():
            self.check_run(settings, deeds)

    def test_just_when_a_deed_counts(self):
        """A deed counts with its last byte, and not ahead of it."""
        disk = Disk(None)
        Queue(disk, 2000, 5, 3)
        whole = files_of(disk)
        deeds = [(("put", A), 8, ([(0, A, 0)], 1)), (("all", (A, B)), 25, ([(0, A, 0), (1, B, 0)], 2))]
        for deed, size, state in deeds:
            for steps in range(size + 1):
                other = copy_of(disk, None)
                queue = Queue(other, 2000, 5, 3)
                other.go_on(steps)
                told = do(queue, deed)
                self.assertEqual(told == "stopped", steps < size)
                again = opened(other, (2000, 5, 3), None)
                self.assertEqual(stays(again), state if steps == size else ([], 0))
                if steps < size:
                    self.assertEqual(files_of(other), whole)


class OpeningTest(StopCase):
    def test_disks_that_are_made_good(self):
        first = bytes_of_rows([("from", 0, ()), ("put", 0, A), ("out", 0, ())])
        parts = bytes_of_rows([("part", 1, A), ("part", 2, B)])
        nothing = ([], 0)
        one = ([(0, A, 1)], 1)
        for segments, left, state in (
            ({}, ["s0"], nothing),
            ({"s0": ()}, ["s0"], nothing),
            ({"s4": (4, 4, 4)}, ["s4"], nothing),
            ({"s0": first + (1, 2)}, ["s0"], one),
            ({"s0": first + parts}, ["s0"], one),
            ({"s0": first + parts + (1, 2, 3)}, ["s0"], one),
            ({"s0": first, "s1": ()}, ["s0"], one),
            ({"s9": first, "s10": (4, 4, 4)}, ["s9"], one),
        ):
            disk = disk_of_rows(segments)
            self.check_stops_while_opened(disk, (50, 5, 3), state)
            queue = self.check_opened(disk, (50, 5, 3), [state])
            self.assertEqual(disk.names(), left)
            self.check_usable(queue, disk, (50, 5, 3))

    def test_a_disk_that_is_broken_stays_so_however_many_steps_it_has(self):
        disk = disk_of_rows({"s0": bytes_of_rows([("from", 0, ()), ("put", 0, A)]) + (9,), "s1": ()})
        files = files_of(disk)
        for steps in (0, 1, 5, None):
            disk.go_on(steps)
            self.assertRaises(Broken, Queue, disk, 50, 5, 3)
            self.assertEqual(files_of(disk), files)


class ManyStopsTest(StopCase):
    """Stops again and again, within deeds and within openings, on one and the same disk."""

    def opened_at_last(self, chance, disk, settings):
        for _ in range(chance.randrange(4)):
            opened(disk, settings, chance.randrange(10))
        return opened(disk, settings, None)

    def one_run(self, seed):
        chance = random.Random(seed)
        settings = settings_for(chance)
        disk = Disk(None)
        queue = Queue(disk, *settings)
        model = Model(*settings)
        disk.go_on(chance.randrange(60))
        for _ in range(120):
            deed = some_deed(chance, model)
            ahead = model.stays()
            told = do(queue, deed)
            if told != "stopped":
                answer = model.do(deed)
                # How many segments are there may differ behind a stop, and with them what these two tell.
                if deed[0] not in ("sweep", "carry"):
                    self.assertEqual(told, answer)
                self.assertEqual(stays(queue), model.stays())
                self.assertEqual((queue.held(), queue.clock()), (model.held(), model.clock))
            else:
                queue = self.opened_at_last(chance, disk, settings)
                if stays(queue) != ahead:
                    model.do(deed)
                model.opened_anew()
                self.assertEqual(stays(queue), model.stays())
                self.assertEqual((queue.held(), queue.clock()), ([], 0))
                disk.go_on(chance.randrange(60))
        self.assertEqual(stays(self.opened_at_last(chance, disk, settings)), model.stays())

    def test_many_runs(self):
        for seed in range(60):
            with self.subTest(seed):
                self.one_run(seed)


if __name__ == "__main__":
    unittest.main()
