import random
import unittest

from queuehold.errors import BadRow, Broken
from queuehold.rules import made
from samples import HUGE, Stranger, no_bytes, no_names, no_numbers

A = (65,)
B = (66, 67)


class MadeCase(unittest.TestCase):
    def makes(self, rows, letters, coming):
        ahead = list(rows)
        told = made(rows)
        self.assertEqual(told, (letters, coming))
        self.assertIs(told.__class__, tuple)
        self.assertIs(told[0].__class__, list)
        self.assertEqual(rows, ahead)

    def refused(self, error, rows):
        with self.assertRaises(error) as caught:
            made(rows)
        self.assertIs(caught.exception.__class__, error)


class PutTest(MadeCase):
    def test_no_rows_make_nothing(self):
        self.makes([], [], 0)

    def test_a_put_makes_a_letter(self):
        self.makes([("put", 0, A)], [(0, A, 0)], 1)
        self.makes([("put", 0, ())], [(0, (), 0)], 1)
        self.makes([("put", 0, (9,) * 60)], [(0, (9,) * 60, 0)], 1)

    def test_a_put_may_leave_numbers_out(self):
        self.makes([("put", 5, A), ("put", 6, B), ("put", 900, A)], [(5, A, 0), (6, B, 0), (900, A, 0)], 901)

    def test_the_last_number(self):
        self.makes([("put", 999999, A)], [(999999, A, 0)], 1000000)
        self.makes([("from", 999999, ()), ("put", 999999, A)], [(999999, A, 0)], 1000000)

    def test_a_number_below_the_next_one_is_broken(self):
        self.refused(Broken, [("put", 0, A), ("put", 0, A)])
        self.refused(Broken, [("put", 5, A), ("put", 5, B)])
        self.refused(Broken, [("put", 5, A), ("put", 4, B)])
        self.refused(Broken, [("from", 3, ()), ("put", 2, A)])
        self.refused(Broken, [("from", 1, ()), ("put", 0, A)])
        self.refused(Broken, [("carried", 3, (0,)), ("put", 3, A)])
        self.refused(Broken, [("carried", 3, (0,)), ("put", 0, A)])
        self.refused(Broken, [("put", 0, A), ("done", 0, ()), ("put", 0, A)])
        self.refused(Broken, [("part", 0, A), ("part", 1, A), ("deal", 0, (2,)), ("put", 1, A)])

    def test_a_number_just_the_next_one_is_not(self):
        self.makes([("from", 3, ()), ("put", 3, A)], [(3, A, 0)], 4)
        self.makes([("carried", 3, (0,)), ("put", 4, A)], [(3, (), 0), (4, A, 0)], 5)


class DealTest(MadeCase):
    def parts(self, first, many):
        return [("part", first + place, (place,)) for place in range(many)]

    def test_parts_count_as_put_when_their_deal_comes(self):
        for first in (0, 1, 255, 999991):
            for many in range(1, 10):
                with self.subTest(first=first, many=many):
                    rows = self.parts(first, many) + [("deal", first, (many,))]
                    letters = [(first + place, (place,), 0) for place in range(many)]
                    self.makes(rows, letters, first + many)

    def test_a_deal_behind_and_ahead_of_other_rows(self):
        rows = [("put", 0, A), ("part", 4, A), ("part", 5, B), ("deal", 4, (2,)), ("out", 5, ()), ("put", 6, A)]
        self.makes(rows, [(0, A, 0), (4, A, 0), (5, B, 1), (6, A, 0)], 7)

    def test_a_deal_right_behind_another(self):
        rows = self.parts(0, 2) + [("deal", 0, (2,))] + self.parts(2, 1) + [("deal", 2, (1,))]
        self.makes(rows, [(0, (0,), 0), (1, (1,), 0), (2, (0,), 0)], 3)

    def test_parts_with_a_number_below_the_next_one_are_broken(self):
        self.refused(Broken, [("put", 0, A)] + self.parts(0, 1) + [("deal", 0, (1,))])
        self.refused(Broken, [("put", 1, A)] + self.parts(1, 3) + [("deal", 1, (3,))])
        self.refused(Broken, [("put", 1, A)] + self.parts(0, 3) + [("deal", 0, (3,))])
        self.refused(Broken, [("from", 2, ())] + self.parts(1, 2) + [("deal", 1, (2,))])
        self.refused(Broken, [("carried", 7, (1,))] + self.parts(7, 2) + [("deal", 7, (2,))])
        self.refused(Broken, self.parts(0, 2) + [("deal", 0, (2,))] + self.parts(1, 1) + [("deal", 1, (1,))])

    def test_a_deal_without_parts_is_broken(self):
        for many in range(1, 10):
            self.refused(Broken, [("deal", 0, (many,))])
            self.refused(Broken, [("put", 0, A), ("deal", 0, (many,))])
            self.refused(Broken, [("from", 0, ()), ("deal", 0, (many,)), ("part", 0, A)])
        self.refused(Broken, self.parts(0, 2) + [("deal", 0, (2,)), ("deal", 0, (2,))])
        self.refused(Broken, self.parts(0, 1) + [("deal", 0, (1,)), ("deal", 1, (1,))])

    def test_a_deal_with_too_few_or_too_many_parts_is_broken(self):
        for there in range(1, 12):
            for many in range(1, 10):
                if there != many:
                    self.refused(Broken, self.parts(0, there) + [("deal", 0, (many,))])
                    self.refused(Broken, self.parts(3, there) + [("deal", 3, (many,))])
                    # Of too many parts, the last ones alone would fit the deal.
                    if there > many:
                        self.refused(Broken, self.parts(0, there) + [("deal", there - many, (many,))])

    def test_parts_with_other_numbers_are_broken(self):
        for numbers in ([1], [2], [0, 2], [1, 2], [0, 0], [0, 1, 3], [0, 2, 3], [1, 2, 3], [0, 1, 1], [5, 6, 7]):
            rows = [("part", number, A) for number in numbers]
            self.refused(Broken, rows + [("deal", 0, (len(rows),))])
        self.refused(Broken, self.parts(0, 2) + [("deal", 1, (2,))])
        self.refused(Broken, self.parts(5, 2) + [("deal", 4, (2,))])

    def test_parts_in_another_order_are_broken(self):
        for numbers in ([1, 0], [0, 2, 1], [2, 1, 0], [1, 0, 2]):
            self.refused(Broken, [("part", number, A) for number in numbers] + [("deal", 0, (len(numbers),))])

    def test_another_row_between_parts_and_their_deal_is_broken(self):
        others = [
            ("put", 9, A), ("out", 0, ()), ("out", 9, ()), ("done", 0, ()), ("done", 9, ()), ("from", 0, ()),
            ("from", 9, ()), ("carried", 9, (0,)), ("carried", 0, (0,)), ("new", 0, ()), ("new", 9, ()),
        ]
        for other in others:
            with self.subTest(other):
                deal = ("deal", 0, (2,))
                self.refused(Broken, self.parts(0, 2) + [other, deal])
                self.refused(Broken, self.parts(0, 1) + [other, ("part", 1, A), deal])
                self.refused(Broken, self.parts(0, 2) + [other])
                self.refused(Broken, self.parts(0, 2) + [other] + self.parts(10, 1) + [("deal", 10, (1,))])

    def test_parts_at_the_end_are_broken(self):
        for many in range(1, 11):
            self.refused(Broken, self.parts(0, many))
            self.refused(Broken, [("from", 0, ()), ("put", 0, A)] + self.parts(1, many))
            self.refused(Broken, self.parts(0, 2) + [("deal", 0, (2,))] + self.parts(2, many))


class OthersTest(MadeCase):
    def test_from_makes_the_next_number_at_least_its_own(self):
        self.makes([("from", 0, ())], [], 0)
        self.makes([("from", 7, ())], [], 7)
        self.makes([("from", 999999, ())], [], 999999)
        self.makes([("from", 7, ()), ("from", 3, ())], [], 7)
        self.makes([("from", 3, ()), ("from", 7, ())], [], 7)
        self.makes([("put", 4, A), ("from", 2, ())], [(4, A, 0)], 5)
        self.makes([("put", 4, A), ("from", 5, ())], [(4, A, 0)], 5)
        self.makes([("put", 4, A), ("from", 6, ())], [(4, A, 0)], 6)

    def test_carried_makes_a_letter_with_its_times(self):
        for times in range(10):
            self.makes([("carried", 3, (times, 65))], [(3, A, times)], 4)
        self.makes([("carried", 0, (0,))], [(0, (), 0)], 1)
        self.makes([("carried", 999999, (9,) + (8,) * 60)], [(999999, (8,) * 60, 9)], 1000000)

    def test_carried_may_have_any_number(self):
        rows = [("from", 9, ()), ("carried", 3, (2, 65)), ("carried", 9, (0,)), ("carried", 8, (1,))]
        self.makes(rows, [(3, A, 2), (8, (), 1), (9, (), 0)], 10)

    def test_carried_is_in_the_place_of_what_was_there(self):
        self.makes([("put", 0, A), ("out", 0, ()), ("carried", 0, (5, 66, 67))], [(0, B, 5)], 1)
        self.makes([("put", 0, A), ("put", 1, A), ("carried", 0, (1, 65))], [(0, A, 1), (1, A, 0)], 2)
        self.makes([("put", 0, A), ("done", 0, ()), ("carried", 0, (1, 65))], [(0, A, 1)], 1)

    def test_out_is_one_more_time(self):
        for many in range(13):
            self.makes([("put", 0, A)] + [("out", 0, ())] * many, [(0, A, many)], 1)
            self.makes([("carried", 0, (4,))] + [("out", 0, ())] * many, [(0, (), 4 + many)], 1)

    def test_out_is_of_its_own_letter_alone(self):
        rows = [("put", 0, A), ("put", 1, B), ("put", 2, A), ("out", 1, ())]
        self.makes(rows, [(0, A, 0), (1, B, 1), (2, A, 0)], 3)

    def test_new_is_no_times(self):
        rows = [("put", 0, A), ("put", 1, B), ("out", 0, ()), ("out", 1, ()), ("new", 0, ())]
        self.makes(rows, [(0, A, 0), (1, B, 1)], 2)
        self.makes(rows + [("out", 0, ())], [(0, A, 1), (1, B, 1)], 2)
        self.makes([("put", 0, A), ("new", 0, ())], [(0, A, 0)], 1)
        self.makes([("carried", 3, (9, 65)), ("new", 3, ())], [(3, A, 0)], 4)

    def test_done_takes_the_letter_away(self):
        self.makes([("put", 0, A), ("done", 0, ())], [], 1)
        self.makes([("put", 0, A), ("put", 1, B), ("done", 0, ())], [(1, B, 0)], 2)
        self.makes([("carried", 3, (9, 65)), ("done", 3, ())], [], 4)
        self.makes([("part", 0, A), ("part", 1, B), ("deal", 0, (2,)), ("done", 1, ())], [(0, A, 0)], 2)

    def test_of_letters_that_are_not_there_these_are_nothing(self):
        for kind in ("out", "new", "done"):
            with self.subTest(kind):
                self.makes([(kind, 0, ())], [], 0)
                self.makes([(kind, 999999, ())], [], 0)
                self.makes([("put", 0, A), (kind, 1, ())], [(0, A, 0)], 1)
                self.makes([("put", 0, A), ("done", 0, ()), (kind, 0, ())], [], 1)
                self.makes([(kind, 0, ()), ("put", 0, A)], [(0, A, 0)], 1)
                self.makes([("from", 5, ()), (kind, 9, ())], [], 5)

    def test_letters_rise_whatever_the_order_of_the_rows(self):
        chance = random.Random(3)
        numbers = [0, 1, 2, 9, 10, 11, 100, 255, 256, 1000, 65536]
        for _ in range(30):
            chance.shuffle(numbers)
            rows = [("carried", number, (number % 10, number % 256)) for number in numbers]
            letters = [(number, (number % 256,), number % 10) for number in sorted(numbers)]
            self.makes(rows, letters, 65537)


class RefusalsTest(MadeCase):
    def no_rows(self):
        return [
            None, True, 0, HUGE, "", "put", [], (), ["put", 0, ()], ("put", 0), ("put", 0, (), 0), {}, set(), len,
            Stranger(), (Stranger(), 0, ()), ("PUT", 0, ()), ("", 0, ()), (1, 0, ()), (("put",), 0, ()),
            ("put", -1, ()), ("put", 1000000, ()), ("put", True, ()), ("put", None, ()), ("put", "0", ()),
            ("put", 0, []), ("put", 0, None), ("put", 0, (256,)), ("put", 0, (True,)), ("put", 0, (0,) * 61),
            ("part", 0, (0,) * 61), ("carried", 0, ()), ("carried", 0, (10,)), ("carried", 0, (0,) * 62),
            ("deal", 0, ()), ("deal", 0, (0,)), ("deal", 0, (10,)), ("deal", 0, (True,)), ("out", 0, (0,)),
            ("done", 0, (0,)), ("from", 0, (0,)), ("new", 0, (0,)), ("from", 1000000, ()), ("from", False, ()),
        ]

    def test_what_is_no_list(self):
        rows = (("put", 0, A),)
        nothing = [None, True, False, 0, HUGE, "", "put", (), rows, rows[0], {}, {0: rows[0]}, set(), b"", len]
        for thing in nothing + [Stranger(), iter([]), range(0), object()]:
            self.refused(BadRow, thing)

    def test_lists_of_what_are_no_rows(self):
        for thing in self.no_rows() + no_numbers() + no_names() + no_bytes():
            self.refused(BadRow, [thing])
            self.refused(BadRow, [("from", 0, ()), thing])
            self.refused(BadRow, [thing, ("put", 0, A)])

    def test_what_is_no_row_is_told_ahead_of_broken(self):
        broken = [("put", 0, A), ("put", 0, A), ("deal", 0, (1,)), ("part", 9, A)]
        self.refused(Broken, broken)
        for thing in self.no_rows():
            self.refused(BadRow, broken + [thing])
            self.refused(BadRow, [thing] + broken)
            self.refused(BadRow, [("part", 0, A), thing])

    def test_nothing_is_changed_by_a_refusal(self):
        rows = [("put", 0, A), ("put", 0, A)]
        self.refused(Broken, rows)
        self.assertEqual(rows, [("put", 0, A), ("put", 0, A)])


class OwnershipTest(MadeCase):
    def test_the_list_is_a_new_one_each_time(self):
        rows = [("put", 0, A)]
        told = made(rows)
        told[0].append("more")
        self.makes(rows, [(0, A, 0)], 1)
        self.makes([], [], 0)

    def test_nothing_is_kept(self):
        for _ in range(3):
            self.makes([("put", 0, A), ("out", 0, ())], [(0, A, 1)], 1)
            self.refused(Broken, [("part", 0, A)])


if __name__ == "__main__":
    unittest.main()
