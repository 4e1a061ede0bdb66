import unittest

from queuehold.errors import BadRow, Broken
from queuehold.rows import row_bytes, rows_in
from samples import BYTES_OF_KINDS, HUGE, bytes_by_the_document, no_bytes, no_names, no_numbers, sealed

# Checks worked out by hand, from the words of the document.
BY_HAND = [
    (("put", 0, ()), (1, 1, 1, 0, 0, 0, 0)),
    # 1 + 1 + 2 + 65 + 66 = 135; 1*1 + 4*1 + 5*2 + 6*65 + 7*66 = 867 = 3*256 + 99
    (("put", 1, (65, 66)), (135, 99, 1, 0, 0, 1, 2, 65, 66)),
    # 999999 = 15*65536 + 66*256 + 63; 2 + 15 + 66 + 63 = 146; 2 + 30 + 198 + 252 = 482 = 256 + 226
    (("out", 999999, ()), (146, 226, 2, 15, 66, 63, 0)),
    (("done", 256, ()), (4, 6, 3, 0, 1, 0, 0)),
    (("from", 65536, ()), (5, 6, 4, 1, 0, 0, 0)),
    (("from", 0, ()), (4, 4, 4, 0, 0, 0, 0)),
    # 5 + 7 + 2 + 255 + 255 = 524 = 2*256 + 12; 5 + 28 + 10 + 1530 + 1785 = 3358 = 13*256 + 30
    (("part", 7, (255, 255)), (12, 30, 5, 0, 0, 7, 2, 255, 255)),
    # 6 + 7 + 1 + 2 = 16; 6 + 28 + 5 + 12 = 51
    (("deal", 7, (2,)), (16, 51, 6, 0, 0, 7, 1, 2)),
    # 7 + 5 + 2 + 9 + 1 = 24; 7 + 20 + 10 + 54 + 7 = 98
    (("carried", 5, (9, 1)), (24, 98, 7, 0, 0, 5, 2, 9, 1)),
    # 300 = 256 + 44; 8 + 1 + 44 = 53; 8 + 3 + 176 = 187
    (("new", 300, ()), (53, 187, 8, 0, 1, 44, 0)),
]

NUMBERS = [0, 1, 9, 255, 256, 257, 65535, 65536, 65537, 131071, 999998, 999999]


def longest(first):
    return tuple(range(first, first + 60))


GOOD_BODIES = {
    "put": [(), (0,), (255,), (1, 2, 3), (255,) * 59, longest(100), (255,) * 60],
    "part": [(), (0,), (255,), (1, 2, 3), (255,) * 59, longest(100), (255,) * 60],
    "carried": [(0,), (1,), (9,), (0, 255), (9, 0), (5,) + longest(7), (9,) + (255,) * 60, (0,) + (0,) * 59],
    "deal": [(1,), (2,), (5,), (8,), (9,)],
    "out": [()], "done": [()], "from": [()], "new": [()],
}

BAD_BODIES = {
    "put": [(0,) * 61, (255,) * 62, (0,) * 255],
    "part": [(0,) * 61, (255,) * 62, (0,) * 255],
    "carried": [(), (10,), (255,), (10, 1), (0,) * 62, (9,) + (255,) * 61, (10,) + (1,) * 60],
    "deal": [(), (0,), (10,), (255,), (1, 1), (0, 1), (2, 0)],
    "out": [(0,), (1,), (1, 2)], "done": [(0,), (1,)], "from": [(0,), (255,)], "new": [(0,), (9,)],
}


def good_rows():
    rows = [(kind, number, bodies[0]) for kind, bodies in GOOD_BODIES.items() for number in NUMBERS]
    return rows + [(kind, 70000, body) for kind, bodies in GOOD_BODIES.items() for body in bodies]


class RowBytesTest(unittest.TestCase):
    def test_rows_worked_out_by_hand(self):
        for row, some in BY_HAND:
            with self.subTest(row):
                told = row_bytes(row)
                self.assertEqual(told, some)
                self.assertIs(told.__class__, tuple)

    def test_each_kind_with_its_bounds(self):
        for row in good_rows():
            with self.subTest(row):
                self.assertEqual(row_bytes(row), bytes_by_the_document(row))

    def test_told_are_numbers_from_0_to_255(self):
        for row in good_rows():
            for one in row_bytes(row):
                self.assertIs(one.__class__, int)
                self.assertTrue(0 <= one <= 255)

    def refused(self, row):
        with self.assertRaises(BadRow) as caught:
            row_bytes(row)
        self.assertIs(caught.exception.__class__, BadRow)

    def test_bodies_out_of_a_kinds_bounds(self):
        for kind, bodies in BAD_BODIES.items():
            for body in bodies:
                with self.subTest(kind=kind, body=body):
                    self.refused((kind, 1, body))

    def test_bodies_that_are_no_tuples_of_bytes(self):
        for kind in BYTES_OF_KINDS:
            for body in no_bytes():
                self.refused((kind, 1, body))
        for first in (True, False, None, "1", (1,), -1, HUGE):
            self.refused(("deal", 1, (first,)))
            self.refused(("carried", 1, (first,)))
            self.refused(("carried", 1, (first, 5)))
            self.refused(("carried", 1, (1, first)))

    def test_numbers_that_are_none(self):
        for kind, bodies in GOOD_BODIES.items():
            for number in no_numbers() + [None, -1, -2, 1000000, 1000001, 16777216, HUGE, -HUGE]:
                self.refused((kind, number, bodies[-1]))

    def test_kinds_that_are_none(self):
        others = ["Put", "PUT", "put ", " put", "pu", "puts", "take", "back", "all", "putout", 2, 8, ["put"], ("put",)]
        for kind in no_names() + others:
            for body in ((), (1,)):
                self.refused((kind, 1, body))

    def test_what_is_no_tuple_of_three(self):
        whole = ("put", 1, (2,))
        for row in no_bytes() + no_numbers() + no_names():
            self.refused(row)
        for row in (list(whole), whole[:2], whole[:1], whole + ((),), whole + (1,), (whole,), [whole], {"put": 1}):
            self.refused(row)
        for row in (("put", (2,), 1), (1, "put", (2,)), ("out", 1, None), ("out", 1, []), ("out", 1, ""), "put"):
            self.refused(row)

    def test_what_is_refused_is_not_changed(self):
        row = ["put", 1, [2, 3]]
        self.refused(row)
        self.refused(tuple(row))
        self.assertEqual(row, ["put", 1, [2, 3]])


class RowsInTest(unittest.TestCase):
    def told(self, some, rows, behind):
        told = rows_in(some)
        self.assertEqual(told, (rows, behind))
        self.assertIs(told.__class__, tuple)
        self.assertIs(told[0].__class__, list)
        for row in told[0]:
            self.assertEqual([part.__class__ for part in row], [str, int, tuple])

    def refused(self, some, error=Broken):
        with self.assertRaises(error) as caught:
            rows_in(some)
        self.assertIs(caught.exception.__class__, error)

    def test_rows_worked_out_by_hand(self):
        for row, some in BY_HAND:
            with self.subTest(row):
                self.told(some, [row], 0)

    def test_each_row_comes_back(self):
        for row in good_rows():
            with self.subTest(row):
                self.told(bytes_by_the_document(row), [row], 0)
                self.told(row_bytes(row), [row], 0)

    def test_no_bytes_at_all(self):
        self.told((), [], 0)

    def test_several_one_behind_the_other(self):
        rows = good_rows()
        some = sum([bytes_by_the_document(row) for row in rows], ())
        self.told(some, rows, 0)
        self.told(some + (1, 1), rows, 2)

    def test_a_list_is_a_new_one_each_time(self):
        some = BY_HAND[0][1]
        first = rows_in(some)[0]
        first.append("more")
        self.told(some, [BY_HAND[0][0]], 0)

    def test_bytes_cut_at_any_place(self):
        sizes = [len(some) for row, some in BY_HAND]
        rows = [row for row, some in BY_HAND]
        whole = sum([some for row, some in BY_HAND], ())
        for size in range(len(whole) + 1):
            with self.subTest(size):
                count = 0
                while count < len(sizes) and sum(sizes[:count + 1]) <= size:
                    count += 1
                self.told(whole[:size], rows[:count], size - sum(sizes[:count]))

    def test_a_longest_row_cut_at_any_place(self):
        some = row_bytes(("carried", 3, (9,) + longest(50)))
        self.assertEqual(len(some), 68)
        for size in range(68):
            self.told(some[:size], [], size)
            self.told(BY_HAND[1][1] + some[:size], [BY_HAND[1][0]], size)

    def test_bytes_that_lack_some_are_not_asked_for_checks_or_bounds(self):
        for some in (
            (0,), (255,) * 6, (0,) * 6, (9, 9, 99, 255, 255, 255, 1), (9, 9, 99, 255, 255, 255, 255) + (0,) * 254,
            (0, 0, 1, 0, 0, 0, 61) + (0,) * 60, (0, 0, 2, 0, 0, 0, 1),
        ):
            with self.subTest(some):
                self.told(some, [], len(some))
                self.told(BY_HAND[2][1] + some, [BY_HAND[2][0]], len(some))

    def test_what_is_no_tuple_of_bytes(self):
        for some in no_bytes():
            self.refused(some, BadRow)
        for row, some in BY_HAND:
            self.refused(list(some), BadRow)
            self.refused(some + (None,), BadRow)
            self.refused(some + (True,), BadRow)
            self.refused((False,) + some, BadRow)
        # As a number True would make this a right row.
        self.refused((True, 1, 1, 0, 0, 0, 0), BadRow)
        self.refused((1, 1, 1, 0, 0, 0, False), BadRow)

    def test_no_tuple_of_bytes_is_told_ahead_of_broken(self):
        broken = (0, 0, 1, 0, 0, 0, 0)
        self.refused(broken)
        for last in (True, None, 256, -1, "a", (1,)):
            self.refused(broken + (last,), BadRow)

    def test_what_is_handed_in_is_not_changed(self):
        some = [1, 1, 1, 0, 0, 0, 0]
        self.refused(some, BadRow)
        self.assertEqual(some, [1, 1, 1, 0, 0, 0, 0])

    def test_wrong_checks(self):
        for row, some in BY_HAND:
            for more in (1, 2, 128, 255):
                first = (some[0] + more) % 256
                second = (some[1] + more) % 256
                self.refused((first, some[1]) + some[2:])
                self.refused((some[0], second) + some[2:])
                self.refused((first, second) + some[2:])

    def test_any_other_byte_than_the_count(self):
        for row, some in BY_HAND:
            for place in [place for place in range(len(some)) if place != 6]:
                for more in (1, 16, 255):
                    self.refused(some[:place] + ((some[place] + more) % 256,) + some[place + 1:])

    def test_bytes_that_changed_places_have_the_same_first_check_alone(self):
        some = row_bytes(("put", 4, (10, 20, 30)))
        self.refused(some[:7] + (20, 10, 30))
        self.refused(some[:7] + (30, 20, 10))

    def test_bytes_that_have_the_same_second_check_alone(self):
        some = row_bytes(("put", 4, (10, 20, 30)))
        self.refused(some[:7] + (17, 14, 30))

    def test_a_smaller_count_of_bytes_than_the_body_has(self):
        some = row_bytes(("put", 4, (10, 20, 30)))
        for count in range(3):
            self.refused(some[:6] + (count,) + some[7:])
        self.refused(some[:6] + (4,) + some[7:] + (0,))

    def test_kinds_that_are_unknown(self):
        for kind in (0, 9, 10, 128, 254, 255):
            with self.subTest(kind):
                self.refused(sealed(kind, 0, 0, 1, 0))
                self.refused(sealed(kind, 0, 0, 1, 1, 5))

    def test_numbers_out_of_bounds(self):
        for kind, bodies in GOOD_BODIES.items():
            body = bodies[0]
            for number in (1000000, 1000001, 1048576, 16777215):
                with self.subTest(kind=kind, number=number):
                    figures = tuple(number.to_bytes(3, "big"))
                    self.refused(sealed(BYTES_OF_KINDS[kind], *figures, len(body), *body))

    def test_bodies_out_of_bounds(self):
        for kind, bodies in BAD_BODIES.items():
            for body in bodies:
                with self.subTest(kind=kind, body=body):
                    self.refused(sealed(BYTES_OF_KINDS[kind], 0, 0, 1, len(body), *body))

    def test_a_wrong_row_beside_right_ones(self):
        right = sum([some for row, some in BY_HAND], ())
        for wrong in ((0, 0, 1, 0, 0, 0, 0), sealed(9, 0, 0, 1, 0), sealed(6, 0, 0, 1, 1, 0), sealed(2, 255, 0, 0, 0)):
            with self.subTest(wrong):
                self.refused(right + wrong)
                self.refused(wrong + right)
                self.refused(right + wrong + right)
                self.refused(right + wrong + (1, 1))


if __name__ == "__main__":
    unittest.main()
