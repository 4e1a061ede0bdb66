import unittest

from queuehold.disk import Disk
from queuehold.errors import BadSettings, Broken, Stopped
from queuehold.queues import Queue
from samples import HUGE, bytes_by_the_document, bytes_of_rows, disk_of_rows, disk_with, files_of, no_numbers

FROM_0 = (4, 4, 4, 0, 0, 0, 0)
A = (65,)
B = (66, 67)

FIRST = [("from", 0, ()), ("put", 0, A), ("out", 0, ()), ("put", 1, B)]
SECOND = [("from", 2, ()), ("put", 2, ()), ("done", 0, ())]
DEAL = [("part", 3, A), ("part", 4, B), ("deal", 3, (2,))]
LETTERS = [(1, B, 0), (2, (), 0)]


def state_of(queue):
    return (queue.letters(), queue.coming(), queue.ready(), queue.dead(), queue.held(), queue.clock(), queue.sizes())


class OpeningCase(unittest.TestCase):
    def opens(self, disk, files, letters, coming):
        queue = Queue(disk, 100, 5, 3)
        self.assertEqual(files_of(disk), files)
        self.assertEqual((queue.letters(), queue.coming()), (letters, coming))
        self.assertEqual((queue.held(), queue.clock()), ([], 0))
        ordered = sorted(files, key=lambda name: int(name[1:]))
        self.assertEqual(queue.sizes(), [len(files[name]) for name in ordered])
        # What is made good needs no step when it is opened again.
        disk.go_on(0)
        self.assertEqual(state_of(Queue(disk, 100, 5, 3)), state_of(queue))
        self.assertEqual(files_of(disk), files)
        return queue

    def broken(self, disk):
        files = files_of(disk)
        for left in (None, 0):
            disk.go_on(left)
            steps = disk.steps()
            with self.assertRaises(Broken):
                Queue(disk, 100, 5, 3)
            self.assertEqual(files_of(disk), files)
            self.assertEqual((disk.steps(), disk.left()), (steps, left))


class FreshTest(OpeningCase):
    def test_a_disk_without_files(self):
        self.opens(Disk(None), {"s0": FROM_0}, [], 0)

    def test_its_steps_are_the_file_and_the_bytes(self):
        disk = Disk(8)
        Queue(disk, 100, 5, 3)
        self.assertEqual((disk.steps(), disk.left()), (8, 0))

    def test_one_segment_that_holds_nothing(self):
        for name in ("s0", "s1", "s7", "s10", "s9999999"):
            self.opens(disk_with({name: ()}, None), {name: FROM_0}, [], 0)

    def test_one_segment_with_a_part_of_a_row(self):
        for size in range(1, 7):
            self.opens(disk_with({"s0": FROM_0[:size]}, None), {"s0": FROM_0}, [], 0)
            some = bytes_by_the_document(("from", 70000, ()))[:size]
            self.opens(disk_with({"s4": some}, None), {"s4": FROM_0}, [], 0)

    def test_one_segment_with_parts_alone(self):
        rows = [("part", 0, A), ("part", 1, B)]
        self.opens(disk_of_rows({"s0": rows}), {"s0": FROM_0}, [], 0)
        self.opens(disk_with({"s3": bytes_of_rows(rows)[:-1]}, None), {"s3": FROM_0}, [], 0)

    def test_one_segment_with_its_first_row_alone(self):
        self.opens(disk_with({"s0": FROM_0}, None), {"s0": FROM_0}, [], 0)
        some = bytes_by_the_document(("from", 41, ()))
        self.opens(disk_with({"s6": some}, None), {"s6": some}, [], 41)


class WholeTest(OpeningCase):
    def test_one_segment(self):
        some = bytes_of_rows(FIRST)
        self.opens(disk_with({"s0": some}, None), {"s0": some}, [(0, A, 1), (1, B, 0)], 2)

    def test_several_segments(self):
        files = {"s0": bytes_of_rows(FIRST), "s1": bytes_of_rows(SECOND)}
        self.opens(disk_with(files, None), files, LETTERS, 3)

    def test_a_deal_at_the_end_of_segments(self):
        files = {"s0": bytes_of_rows(FIRST + [("part", 2, A), ("deal", 2, (1,))])}
        files["s1"] = bytes_of_rows([("from", 3, ())] + DEAL)
        self.opens(disk_with(files, None), files, [(0, A, 1), (1, B, 0), (2, A, 0), (3, A, 0), (4, B, 0)], 5)

    def test_segments_not_from_0_on(self):
        for first in (1, 5, 9, 99, 999, 9999998):
            files = {f"s{first}": bytes_of_rows(FIRST), f"s{first + 1}": bytes_of_rows(SECOND)}
            self.opens(disk_with(files, None), files, LETTERS, 3)

    def test_segments_are_in_the_order_of_their_numbers(self):
        # By their signs s10 is ahead of s9, and its rows would be told twice.
        files = {}
        for segment in range(8, 13):
            rows = [("from", segment, ()), ("put", segment, (segment,)), ("out", segment, ())]
            files[f"s{segment}"] = bytes_of_rows(rows + [("done", 9, ())] * (segment % 3))
        letters = [(number, (number,), 1) for number in (8, 10, 11, 12)]
        self.opens(disk_with(files, None), files, letters, 13)

    def test_letters_carried_to_a_later_segment(self):
        files = {
            "s3": bytes_of_rows([("from", 4, ()), ("put", 4, A), ("out", 4, ())]),
            "s4": bytes_of_rows([("from", 5, ()), ("carried", 4, (1, 65)), ("out", 4, ()),
                                 ("carried", 2, (3, 66, 67))]),
        }
        self.opens(disk_with(files, None), files, [(2, B, 3), (4, A, 2)], 5)

    def test_a_segment_longer_than_most(self):
        body = (7,) * 60
        some = bytes_of_rows(FIRST + [("put", 2, body), ("put", 3, body)])
        letters = [(0, A, 1), (1, B, 0), (2, body, 0), (3, body, 0)]
        self.opens(disk_with({"s0": some}, None), {"s0": some}, letters, 4)

    def test_a_segment_may_have_from_behind_its_first_row(self):
        some = bytes_of_rows(FIRST + [("from", 9, ())])
        self.opens(disk_with({"s0": some}, None), {"s0": some}, [(0, A, 1), (1, B, 0)], 9)

    def test_nothing_that_is_whole_is_a_step(self):
        disk = disk_of_rows({"s0": FIRST, "s1": SECOND}, 0)
        steps = disk.steps()
        queue = Queue(disk, 100, 5, 3)
        self.assertEqual((queue.letters(), disk.steps()), (LETTERS, steps))

    def test_letters_behind_as_many_times_as_tries_are_dead(self):
        rows = [("from", 0, ()), ("carried", 0, (2,)), ("carried", 1, (3,)), ("carried", 2, (4,)), ("carried", 3, (0,))]
        queue = Queue(disk_of_rows({"s0": rows}), 100, 5, 3)
        self.assertEqual((queue.ready(), queue.dead()), ([0, 3], [1, 2]))


class LastTest(OpeningCase):
    def test_a_part_of_a_row_is_cut(self):
        whole = bytes_of_rows(SECOND)
        ends = [("put", 3, A), ("put", 3, (7,) * 60), ("out", 1, ()), ("done", 1, ()), ("new", 1, ()),
                ("part", 3, B), ("deal", 3, (1,)), ("carried", 1, (0, 66, 67))]
        for end in ends:
            some = bytes_by_the_document(end)
            for size in range(1, len(some)):
                files = {"s0": bytes_of_rows(FIRST), "s1": whole + some[:size]}
                self.opens(disk_with(files, None), {"s0": files["s0"], "s1": whole}, LETTERS, 3)

    def test_parts_of_a_deal_that_is_not_done_are_cut(self):
        whole = bytes_of_rows(SECOND)
        for many in range(1, 10):
            parts = [("part", 3 + place, (place,) * 7) for place in range(many)]
            files = {"s0": bytes_of_rows(FIRST), "s1": whole + bytes_of_rows(parts)}
            self.opens(disk_with(files, None), {"s0": files["s0"], "s1": whole}, LETTERS, 3)

    def test_a_deal_is_done_with_its_last_byte(self):
        whole = bytes_of_rows(SECOND)
        more = bytes_of_rows(DEAL)
        for size in range(len(more)):
            self.opens(disk_with({"s5": bytes_of_rows(FIRST), "s6": whole + more[:size]}, None),
                       {"s5": bytes_of_rows(FIRST), "s6": whole}, LETTERS, 3)
        files = {"s5": bytes_of_rows(FIRST), "s6": whole + more}
        self.opens(disk_with(files, None), files, LETTERS + [(3, A, 0), (4, B, 0)], 5)

    def test_parts_behind_a_deal_that_is_done(self):
        whole = bytes_of_rows(FIRST + [("part", 2, A), ("deal", 2, (1,))])
        more = bytes_of_rows([("part", 3, A), ("part", 4, A)])
        letters = [(0, A, 1), (1, B, 0), (2, A, 0)]
        for size in range(len(more) + 1):
            self.opens(disk_with({"s0": whole + more[:size]}, None), {"s0": whole}, letters, 3)

    def test_parts_that_are_cut_may_have_any_numbers(self):
        whole = bytes_of_rows(FIRST)
        more = bytes_of_rows([("part", 0, A), ("part", 0, A), ("part", 77, A)])
        self.opens(disk_with({"s0": whole + more}, None), {"s0": whole}, [(0, A, 1), (1, B, 0)], 2)

    def test_one_of_which_nothing_is_left_is_dropped_behind_others(self):
        begun = bytes_by_the_document(("from", 3, ()))
        ends = [begun[:size] for size in range(7)]
        ends += [bytes_of_rows([("part", 3, A)]), bytes_of_rows([("part", 3, A), ("part", 4, B)]) + (1, 2)]
        for some in ends:
            files = {"s8": bytes_of_rows(FIRST), "s9": bytes_of_rows(SECOND), "s10": some}
            left = {"s8": files["s8"], "s9": files["s9"]}
            self.opens(disk_with(files, None), left, LETTERS, 3)

    def test_the_one_ahead_of_a_dropped_one_is_not_made_good(self):
        for more in ((1,), bytes_by_the_document(("part", 3, A))):
            self.broken(disk_with({"s0": bytes_of_rows(SECOND) + more, "s1": ()}, None))

    def test_a_row_is_written_behind_the_cut(self):
        disk = disk_with({"s0": bytes_of_rows(FIRST) + (9, 9, 9)}, None)
        queue = Queue(disk, 100, 5, 3)
        self.assertEqual(queue.put(A), 2)
        self.assertEqual(files_of(disk), {"s0": bytes_of_rows(FIRST + [("put", 2, A)])})

    def test_a_row_is_written_behind_a_drop(self):
        disk = disk_of_rows({"s0": FIRST, "s1": (1, 2)})
        queue = Queue(disk, 100, 5, 3)
        self.assertEqual(queue.put(A), 2)
        self.assertEqual(files_of(disk), {"s0": bytes_of_rows(FIRST + [("put", 2, A)])})
        disk = disk_of_rows({"s0": FIRST, "s1": (1, 2)})
        queue = Queue(disk, 10, 5, 3)
        self.assertEqual(queue.put(A), 2)
        files = {"s0": bytes_of_rows(FIRST), "s1": bytes_of_rows([("from", 2, ()), ("put", 2, A)])}
        self.assertEqual(files_of(disk), files)


class BrokenTest(OpeningCase):
    def test_a_file_that_is_no_segment(self):
        names = ["s", "a", "t0", "0", "00", "s0a", "s0s", "sa", "ss0", "0s", "x1", "s1x", "seg0", "s12345a", "10"]
        for name in names:
            self.broken(disk_with({name: ()}, None))
            self.broken(disk_of_rows({"s0": FIRST, name: []}))
            self.broken(disk_of_rows({"s0": FIRST, "s1": SECOND, name: FIRST}))

    def test_names_with_a_needless_0(self):
        for name in ("s00", "s01", "s000", "s001", "s010", "s0000000", "s0000001"):
            self.broken(disk_with({name: ()}, None))
            self.broken(disk_of_rows({name: FIRST}))
            self.broken(disk_of_rows({"s0": FIRST, name: SECOND}))
            self.broken(disk_of_rows({name: FIRST, "s2": SECOND}))

    def test_a_segment_that_lacks(self):
        for names in (["s0", "s2"], ["s1", "s3"], ["s0", "s10"], ["s9", "s11"], ["s0", "s9999999"]):
            self.broken(disk_of_rows({names[0]: FIRST, names[1]: SECOND}))
            # Even if nothing is left of the last one.
            self.broken(disk_of_rows({names[0]: FIRST, names[1]: []}))
        third = [("from", 3, ())]
        self.broken(disk_of_rows({"s0": FIRST, "s1": SECOND, "s3": third}))
        self.broken(disk_of_rows({"s0": FIRST, "s2": SECOND, "s3": third}))

    def test_bytes_that_are_no_whole_row_in_a_segment_but_the_last(self):
        some = bytes_by_the_document(("put", 2, A))
        for size in range(1, len(some)):
            self.broken(disk_of_rows({"s0": bytes_of_rows(FIRST) + some[:size], "s1": SECOND}))
            self.broken(disk_of_rows({"s0": bytes_of_rows(FIRST) + some[:size], "s1": ()}))
            self.broken(disk_of_rows({"s0": FIRST, "s1": bytes_of_rows(SECOND) + some[:size], "s2": [("from", 3, ())]}))

    def test_parts_not_done_at_the_end_of_a_segment_but_the_last(self):
        for many in range(1, 10):
            parts = [("part", 2 + place, A) for place in range(many)]
            behind = [("from", 2 + many, ())]
            self.broken(disk_of_rows({"s0": FIRST + parts, "s1": behind}))
            self.broken(disk_of_rows({"s0": FIRST + parts, "s1": []}))
            self.broken(disk_of_rows({"s0": FIRST + parts, "s1": behind + [("deal", 2, (many,))]}))
            self.broken(disk_of_rows({"s0": FIRST + parts, "s1": [("deal", 2, (many,))]}))

    def test_a_segment_but_the_last_that_holds_nothing(self):
        for some in ((), (4,), FROM_0[:6]):
            self.broken(disk_of_rows({"s0": some, "s1": FIRST}))
            self.broken(disk_of_rows({"s0": some, "s1": ()}))
            self.broken(disk_of_rows({"s0": FIRST, "s1": some, "s2": SECOND}))

    def test_a_first_row_that_is_not_from(self):
        firsts = [[("put", 2, A)], [("out", 0, ())], [("done", 0, ())], [("part", 2, A), ("deal", 2, (1,))],
                  [("carried", 0, (0, 65))], [("new", 0, ())]]
        for rows in firsts:
            with self.subTest(rows):
                self.broken(disk_of_rows({"s0": rows}))
                self.broken(disk_of_rows({"s0": rows + [("from", 0, ())]}))
                self.broken(disk_of_rows({"s0": rows, "s1": [("from", 9, ())]}))
                self.broken(disk_of_rows({"s0": FIRST, "s1": rows}))
                self.broken(disk_of_rows({"s0": FIRST, "s1": rows, "s2": [("from", 9, ())]}))
                self.broken(disk_of_rows({"s0": bytes_of_rows(rows) + (1, 2)}))

    def test_a_wrong_byte(self):
        files = {"s0": bytes_of_rows(FIRST), "s1": bytes_of_rows(SECOND)}
        for name in files:
            for place in range(len(files[name])):
                changed = list(files[name])
                changed[place] = (changed[place] + 1) % 256
                disk = disk_with({**files, name: tuple(changed)}, None)
                if name == "s1" and place == len(files[name]) - 1:
                    # The last row's count asks for a byte that is not there: a part of a row.
                    Queue(disk, 100, 5, 3)
                    self.assertEqual(disk.read("s1"), files["s1"][:-7])
                else:
                    self.broken(disk)

    def test_rows_that_can_not_be_counted(self):
        for rows in ([("put", 1, A)], [("put", 0, A)], [("deal", 2, (1,))], [("part", 3, A), ("deal", 2, (1,))],
                     [("part", 1, A), ("deal", 1, (1,))], [("part", 2, A), ("out", 0, ())]):
            with self.subTest(rows):
                self.broken(disk_of_rows({"s0": FIRST + rows}))
                self.broken(disk_of_rows({"s0": FIRST + rows + [("part", 9, A)]}))
                self.broken(disk_of_rows({"s0": bytes_of_rows(FIRST + rows) + (1,)}))
                self.broken(disk_of_rows({"s0": FIRST + rows, "s1": [("from", 9, ())]}))
                self.broken(disk_of_rows({"s0": FIRST, "s1": [("from", 2, ())] + rows}))
                self.broken(disk_of_rows({"s0": FIRST + rows, "s1": (1,)}))

    def test_what_is_made_good_else_stays_where_something_else_is_broken(self):
        self.broken(disk_of_rows({"s0": FIRST, "s1": bytes_of_rows(SECOND) + (1, 2), "x": ()}))
        self.broken(disk_of_rows({"s0": [("put", 0, A)], "s1": bytes_of_rows(SECOND) + (1, 2)}))
        self.broken(disk_of_rows({"s0": FIRST + [("put", 0, A)], "s1": []}))


class SettingsTest(OpeningCase):
    def refused(self, disk, most, hold, tries):
        files = files_of(disk)
        steps = (disk.steps(), disk.left())
        with self.assertRaises(BadSettings) as caught:
            Queue(disk, most, hold, tries)
        self.assertIs(caught.exception.__class__, BadSettings)
        self.assertEqual((files_of(disk), (disk.steps(), disk.left())), (files, steps))

    def disks(self):
        torn = bytes_of_rows(SECOND) + (1, 2)
        return [Disk(None), Disk(0), disk_of_rows({"s0": FIRST, "s1": torn}), disk_of_rows({"s0": ()}),
                disk_of_rows({"x": FIRST}), disk_of_rows({"s0": [("put", 0, A)]}, 0)]

    def test_settings_at_their_bounds(self):
        for most, hold, tries in ((1, 0, 1), (2000, 99, 9), (1, 99, 1), (2000, 0, 9), (2, 1, 2), (1999, 98, 8)):
            disk = Disk(None)
            queue = Queue(disk, most, hold, tries)
            self.assertEqual((queue.letters(), queue.coming(), queue.sizes()), ([], 0, [7]))

    def test_settings_that_are_none(self):
        for disk in self.disks():
            for thing in no_numbers() + [None, -1, HUGE, -HUGE, 2001, 3000]:
                self.refused(disk, thing, 5, 3)
                self.refused(disk, 100, thing, 3)
                self.refused(disk, 100, 5, thing)
                self.refused(disk, thing, thing, thing)
            for most in (0, 2001, 2002, -5):
                self.refused(disk, most, 5, 3)
            for hold in (-1, 100, 101):
                self.refused(disk, 100, hold, 3)
            for tries in (0, 10, 11, -1):
                self.refused(disk, 100, 5, tries)

    def test_settings_are_told_ahead_of_broken_and_broken_ahead_of_stopped(self):
        self.refused(disk_of_rows({"x": ()}, 0), 0, 5, 3)
        self.broken(disk_of_rows({"x": ()}, 0))
        with self.assertRaises(Stopped):
            Queue(Disk(0), 100, 5, 3)


class AgainTest(OpeningCase):
    def test_a_queue_opened_again(self):
        disk = Disk(None)
        queue = Queue(disk, 30, 5, 2)
        for place in range(6):
            queue.put((place,))
        queue.put_all((A, B))
        self.assertEqual([queue.take("ann")[0] for _ in range(4)], [0, 1, 2, 3])
        queue.done("ann", 1)
        queue.give_back("ann", 0)
        self.assertEqual(queue.take("bob"), (0, (0,), 2))
        queue.wait(3)
        files = files_of(disk)
        again = Queue(disk, 30, 5, 2)
        letters = [(0, (0,), 2), (2, (2,), 1), (3, (3,), 1), (4, (4,), 0), (5, (5,), 0), (6, A, 0), (7, B, 0)]
        self.assertEqual(again.letters(), letters)
        self.assertEqual((again.coming(), again.held(), again.clock()), (8, [], 0))
        self.assertEqual((again.ready(), again.dead()), ([2, 3, 4, 5, 6, 7], [0]))
        self.assertEqual(again.sizes(), queue.sizes())
        self.assertEqual(files_of(disk), files)

    def test_with_other_settings(self):
        disk = Disk(None)
        queue = Queue(disk, 30, 5, 5)
        queue.put(A)
        for _ in range(3):
            queue.take("ann")
            queue.give_back("ann", 0)
        self.assertEqual((Queue(disk, 1, 0, 2).dead(), Queue(disk, 1, 0, 3).dead()), ([0], [0]))
        self.assertEqual((Queue(disk, 1, 0, 4).ready(), Queue(disk, 2000, 99, 9).ready()), ([0], [0]))


if __name__ == "__main__":
    unittest.main()
