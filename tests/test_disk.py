import unittest

from queuehold.disk import Disk
from queuehold.errors import BadName, BadNumber, BadRow, Missing, Stopped, There
from samples import HUGE, disk_with, files_of, no_bytes, no_names, no_numbers


def all_of(disk):
    files = [(name, disk.read(name), disk.size(name)) for name in disk.names()]
    return (files, disk.steps(), disk.left())


class DiskCase(unittest.TestCase):
    def refused(self, error, disk, call):
        ahead = all_of(disk)
        with self.assertRaises(error) as caught:
            call()
        self.assertIs(caught.exception.__class__, error)
        self.assertEqual(all_of(disk), ahead)


class DeedsTest(DiskCase):
    def test_a_new_disk_is_empty(self):
        disk = Disk(None)
        self.assertEqual(disk.names(), [])
        self.assertEqual(disk.steps(), 0)
        self.assertIsNone(disk.left())

    def test_a_made_file_is_empty(self):
        disk = Disk(5)
        self.assertIsNone(disk.make("s0"))
        self.assertEqual(disk.read("s0"), ())
        self.assertEqual(disk.size("s0"), 0)
        self.assertEqual((disk.steps(), disk.left()), (1, 4))

    def test_bytes_are_added_behind_those_that_are_there(self):
        disk = disk_with({"a": (1, 2), "b": (9,)}, 10)
        self.assertIsNone(disk.add("a", (0, 255, 3)))
        self.assertEqual(files_of(disk), {"a": (1, 2, 0, 255, 3), "b": (9,)})
        self.assertEqual(disk.size("a"), 5)
        self.assertEqual((disk.steps(), disk.left()), (8, 7))

    def test_an_adding_of_no_bytes_is_no_step(self):
        disk = disk_with({"a": (1,)}, 3)
        self.assertIsNone(disk.add("a", ()))
        self.assertEqual(disk.read("a"), (1,))
        self.assertEqual((disk.steps(), disk.left()), (2, 3))

    def test_a_cut_keeps_the_first_bytes_and_is_one_step(self):
        for size in range(5):
            with self.subTest(size):
                disk = disk_with({"a": (5, 6, 7, 8), "b": (1, 2)}, 9)
                self.assertIsNone(disk.cut("a", size))
                self.assertEqual(files_of(disk), {"a": (5, 6, 7, 8)[:size], "b": (1, 2)})
                self.assertEqual(disk.size("a"), size)
                self.assertEqual((disk.steps(), disk.left()), (9, 8))

    def test_an_empty_file_is_cut_to_0_and_that_is_a_step(self):
        disk = disk_with({"a": ()}, 1)
        disk.cut("a", 0)
        self.assertEqual(disk.read("a"), ())
        self.assertEqual((disk.steps(), disk.left()), (2, 0))

    def test_a_cut_file_takes_bytes_behind_the_cut(self):
        disk = disk_with({"a": (5, 6, 7)}, None)
        disk.cut("a", 1)
        disk.add("a", (9,))
        self.assertEqual(disk.read("a"), (5, 9))

    def test_a_dropped_file_is_there_no_more_and_that_is_one_step(self):
        disk = disk_with({"a": (1, 2, 3), "b": (4,)}, 7)
        self.assertIsNone(disk.drop("a"))
        self.assertEqual(files_of(disk), {"b": (4,)})
        self.assertEqual((disk.steps(), disk.left()), (7, 6))
        self.refused(Missing, disk, lambda: disk.read("a"))

    def test_a_dropped_file_made_anew_is_empty(self):
        disk = disk_with({"a": (1, 2, 3)}, None)
        disk.drop("a")
        disk.make("a")
        self.assertEqual(files_of(disk), {"a": ()})

    def test_names_rise_in_whatever_order_they_were_made(self):
        disk = Disk(None)
        for name in ("s2", "s10", "b", "0", "a", "9z", "z", "aa"):
            disk.make(name)
        self.assertEqual(disk.names(), ["0", "9z", "a", "aa", "b", "s10", "s2", "z"])

    def test_names_may_have_1_to_8_signs_of_a_to_z_and_0_to_9(self):
        signs = "abcdefghijklmnopqrstuvwxyz0123456789"
        names = list(signs) + ["ab", "a1b2c3d4", "abcdefgh", "ijklmnop", "qrstuvwx", "yz012345", "6789", "00000000"]
        disk = Disk(None)
        for name in names:
            disk.make(name)
            disk.add(name, (7,))
            self.assertEqual((disk.read(name), disk.size(name)), ((7,), 1))
        self.assertEqual(disk.names(), sorted(names))
        for name in names:
            disk.cut(name, 0)
            disk.drop(name)
        self.assertEqual(disk.names(), [])

    def test_each_byte_from_0_to_255_is_kept(self):
        disk = disk_with({"a": tuple(range(256))}, None)
        self.assertEqual(disk.read("a"), tuple(range(256)))

    def test_kinds_that_are_told(self):
        disk = disk_with({"a": (1,)}, 3)
        self.assertIs(disk.names().__class__, list)
        self.assertIs(disk.read("a").__class__, tuple)
        self.assertIs(disk.size("a").__class__, int)
        self.assertIs(disk.steps().__class__, int)
        self.assertIs(disk.left().__class__, int)


class StepsTest(DiskCase):
    def test_a_disk_has_0_to_100000_steps_or_no_end(self):
        for steps in (None, 0, 1, 2, 99999, 100000):
            with self.subTest(steps):
                self.assertEqual(Disk(steps).left(), steps)
                disk = disk_with({"a": (1,)}, 5)
                self.assertIsNone(disk.go_on(steps))
                self.assertEqual(disk.left(), steps)
                self.assertEqual(disk.steps(), 2)

    def test_steps_that_are_none_are_refused(self):
        for steps in no_numbers() + [-1, -2, 100001, 200000, HUGE, -HUGE]:
            with self.subTest(repr(steps)[:40] if not isinstance(steps, int) else steps.bit_length()):
                with self.assertRaises(BadNumber):
                    Disk(steps)
                for left in (None, 0, 5):
                    disk = disk_with({"a": (1,)}, left)
                    self.refused(BadNumber, disk, lambda: disk.go_on(steps))

    def test_going_on_tells_anew_how_many_steps_are_left(self):
        disk = Disk(5)
        disk.go_on(3)
        self.assertEqual(disk.left(), 3)
        disk.go_on(None)
        self.assertIsNone(disk.left())
        disk.make("a")
        self.assertIsNone(disk.left())
        disk.go_on(1)
        disk.add("a", (1,))
        self.assertEqual((disk.steps(), disk.left()), (2, 0))
        self.refused(Stopped, disk, lambda: disk.add("a", (1,)))

    def test_a_disk_does_100000_steps_and_no_more(self):
        disk = Disk(100000)
        disk.make("a")
        with self.assertRaises(Stopped):
            disk.add("a", (3,) * 100000)
        self.assertEqual(disk.size("a"), 99999)
        self.assertEqual((disk.steps(), disk.left()), (100000, 0))

    def test_a_disk_without_end_does_more(self):
        disk = Disk(None)
        disk.make("a")
        disk.add("a", (3,) * 100001)
        self.assertEqual(disk.size("a"), 100001)
        self.assertEqual((disk.steps(), disk.left()), (100002, None))


class StoppingTest(DiskCase):
    DEEDS = [
        lambda disk: disk.make("a"),
        lambda disk: disk.add("a", (1, 2, 3)),
        lambda disk: disk.add("a", ()),
        lambda disk: disk.make("b"),
        lambda disk: disk.add("b", (4, 5)),
        lambda disk: disk.cut("a", 1),
        lambda disk: disk.add("a", (6,)),
        lambda disk: disk.drop("b"),
        lambda disk: disk.cut("a", 0),
    ]
    # What is there behind each count of steps, from none on.
    STATES = [
        {},
        {"a": ()},
        {"a": (1,)},
        {"a": (1, 2)},
        {"a": (1, 2, 3)},
        {"a": (1, 2, 3), "b": ()},
        {"a": (1, 2, 3), "b": (4,)},
        {"a": (1, 2, 3), "b": (4, 5)},
        {"a": (1,), "b": (4, 5)},
        {"a": (1, 6), "b": (4, 5)},
        {"a": (1, 6)},
        {"a": ()},
    ]

    def deeds_until_stopped(self, disk):
        for deed in self.DEEDS:
            try:
                deed(disk)
            except Stopped:
                return deed
        return None

    def test_a_disk_stops_ahead_of_any_step(self):
        for steps, state in enumerate(self.STATES):
            with self.subTest(steps):
                disk = Disk(steps)
                deed = self.deeds_until_stopped(disk)
                self.assertEqual(deed is None, steps == len(self.STATES) - 1)
                self.assertEqual(files_of(disk), state)
                self.assertEqual((disk.steps(), disk.left()), (steps, 0))

    def test_a_stopped_disk_stays_stopped_until_it_goes_on(self):
        disk = disk_with({"a": (1,)}, 0)
        for call in (
            lambda: disk.make("b"), lambda: disk.add("a", (2,)), lambda: disk.cut("a", 0), lambda: disk.cut("a", 1),
            lambda: disk.drop("a"),
        ):
            self.refused(Stopped, disk, call)
            self.refused(Stopped, disk, call)
            disk.go_on(0)
            self.refused(Stopped, disk, call)
        disk.go_on(1)
        disk.add("a", (2,))
        self.assertEqual(disk.read("a"), (1, 2))
        self.assertEqual((disk.steps(), disk.left()), (3, 0))

    def test_an_adding_stopped_in_its_midst_leaves_the_bytes_ahead(self):
        for steps in range(5):
            with self.subTest(steps):
                disk = disk_with({"a": (9,)}, steps)
                with self.assertRaises(Stopped):
                    disk.add("a", (10, 11, 12, 13, 14))
                self.assertEqual(disk.read("a"), (9, 10, 11, 12, 13, 14)[:1 + steps])
                self.assertEqual((disk.steps(), disk.left()), (2 + steps, 0))

    def test_an_adding_of_just_as_many_bytes_as_steps_is_done(self):
        disk = disk_with({"a": ()}, 3)
        disk.add("a", (1, 2, 3))
        self.assertEqual(disk.read("a"), (1, 2, 3))
        self.assertEqual(disk.left(), 0)

    def test_reading_is_no_step(self):
        disk = disk_with({"a": (1, 2)}, 0)
        for left in (0, 1, None):
            disk.go_on(left)
            self.assertEqual(disk.names(), ["a"])
            self.assertEqual(disk.read("a"), (1, 2))
            self.assertEqual(disk.size("a"), 2)
            self.assertEqual((disk.steps(), disk.left()), (3, left))

    def test_an_adding_of_no_bytes_needs_no_step(self):
        disk = disk_with({"a": (1,)}, 0)
        self.assertIsNone(disk.add("a", ()))
        self.assertEqual(all_of(disk), ([("a", (1,), 1)], 2, 0))


class RefusalsTest(DiskCase):
    # The second disk has no steps left, so that what is told ahead of Stopped is seen.
    def disks(self):
        return [disk_with({"a": (1, 2)}, left) for left in (None, 0, 7)]

    def test_names_that_are_none(self):
        for disk in self.disks():
            for name in no_names():
                self.refused(BadName, disk, lambda: disk.make(name))
                self.refused(BadName, disk, lambda: disk.add(name, (1,)))
                self.refused(BadName, disk, lambda: disk.cut(name, 0))
                self.refused(BadName, disk, lambda: disk.drop(name))
                self.refused(BadName, disk, lambda: disk.read(name))
                self.refused(BadName, disk, lambda: disk.size(name))

    def test_files_that_lack(self):
        for disk in self.disks():
            for name in ("b", "aa", "0", "abcdefgh"):
                self.refused(Missing, disk, lambda: disk.add(name, (1,)))
                self.refused(Missing, disk, lambda: disk.add(name, ()))
                self.refused(Missing, disk, lambda: disk.cut(name, 0))
                self.refused(Missing, disk, lambda: disk.drop(name))
                self.refused(Missing, disk, lambda: disk.read(name))
                self.refused(Missing, disk, lambda: disk.size(name))

    def test_a_file_that_is_there(self):
        for disk in self.disks():
            self.refused(There, disk, lambda: disk.make("a"))

    def test_bytes_that_are_none(self):
        for disk in self.disks():
            for some in no_bytes():
                self.refused(BadRow, disk, lambda: disk.add("a", some))

    def test_sizes_that_are_none(self):
        for disk in self.disks():
            for size in no_numbers() + [None, -1, -2, 3, 4, 255, HUGE, -HUGE]:
                self.refused(BadNumber, disk, lambda: disk.cut("a", size))

    def test_an_empty_file_has_one_size(self):
        for left in (None, 0):
            disk = disk_with({"a": ()}, left)
            for size in (1, -1, False, None):
                self.refused(BadNumber, disk, lambda: disk.cut("a", size))

    def test_of_a_name_and_what_is_behind_it_the_name_is_told(self):
        for disk in self.disks():
            for some in (None, [1], (256,), (True,)):
                self.refused(BadName, disk, lambda: disk.add("A", some))
                self.refused(Missing, disk, lambda: disk.add("b", some))
            for size in (None, -1, 3, True, "0"):
                self.refused(BadName, disk, lambda: disk.cut("", size))
                self.refused(Missing, disk, lambda: disk.cut("b", size))

    def test_what_is_refused_is_not_changed(self):
        disk = disk_with({"a": (1, 2)}, None)
        some = [3, 4]
        name = ["a"]
        self.refused(BadRow, disk, lambda: disk.add("a", some))
        self.refused(BadName, disk, lambda: disk.add(name, some))
        self.assertEqual((some, name), ([3, 4], ["a"]))


class OwnershipTest(DiskCase):
    def test_the_list_of_names_is_a_new_one_each_time(self):
        disk = disk_with({"a": (1,), "b": ()}, None)
        names = disk.names()
        names.append("c")
        names.reverse()
        self.assertEqual(disk.names(), ["a", "b"])
        self.assertIsNot(disk.names(), disk.names())

    def test_what_was_read_stays_as_it_was(self):
        disk = disk_with({"a": (1, 2)}, None)
        names = disk.names()
        some = disk.read("a")
        disk.add("a", (3,))
        disk.make("b")
        disk.cut("a", 0)
        self.assertEqual((names, some), (["a"], (1, 2)))

    def test_a_file_takes_what_was_read_from_it(self):
        disk = disk_with({"a": (1, 2)}, None)
        disk.add("a", disk.read("a"))
        self.assertEqual(disk.read("a"), (1, 2, 1, 2))

    def test_disks_have_nothing_in_common(self):
        one = Disk(3)
        other = Disk(3)
        one.make("a")
        self.assertEqual((other.names(), other.steps(), other.left()), ([], 0, 3))
        other.make("a")
        one.add("a", (1,))
        self.assertEqual((one.read("a"), other.read("a")), ((1,), ()))


if __name__ == "__main__":
    unittest.main()
