"""Things that several tests hand in."""


class Stranger:
    """A thing that can't be compared or counted, so nothing but its kind can be asked."""

    __hash__ = None

    def __eq__(self, other):
        raise RuntimeError("compared")

    def __len__(self):
        raise RuntimeError("counted")

    def __bool__(self):
        raise RuntimeError("asked")


HUGE = 10 ** 5000


def no_numbers():
    return [True, False, "", "0", "1", [], [0], (), (0,), {}, {0: 0}, set(), b"", b"0", len, object(), Stranger()]


def no_names():
    return [
        None, True, False, 0, 1, -1, HUGE, [], ["a"], (), ("a",), {}, {"a": 1}, set(), b"a", len, object(),
        Stranger(),
        "", "abcdefghi", "a" * 1000, "A", "aB", "Z", "a b", " ", " a", "a ", "a\n", "\n", "a_b", "_", "-", "a-1",
        "a.b", "s/0", "`", "{", "@", "[", ":", "/", "\x00", "\xe4", "\xdf", "\u0131", "\u0661", "\xb2", "\uff41",
        "a\u0301", "\ud800",
    ]


def no_bytes():
    return [
        None, True, False, 0, 1, -1, HUGE, "", "a", "abc", [], [1], [1, 2], {}, {1: 2}, set(), b"", b"ab", len,
        object(), Stranger(), range(3),
        (True,), (False,), (None,), ("",), ("a",), ((),), ((1,),), ([],), ({},), (-1,), (256,), (1000,), (HUGE,),
        (-HUGE,), (len,), (Stranger(),),
        (1, 2, True), (1, False, 2), (None, 1, 2), (1, 256), (0, 255, -1), (1, 2, "3"), (1, (2,)), (1, [2]),
    ]


def sealed(*behind):
    """The bytes of a row with right checks, whatever these bytes tell; summed up in another way than the program."""
    first = 0
    second = 0
    for place in range(len(behind)):
        first = (first + behind[place]) % 256
        second = (second + (place + 1) * behind[place]) % 256
    return (first, second) + behind
