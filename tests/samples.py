"""Things that several tests hand in, and disks and bytes that they need."""

from queuehold.disk import Disk

BYTES_OF_KINDS = {"put": 1, "out": 2, "done": 3, "from": 4, "part": 5, "deal": 6, "carried": 7, "new": 8}


class Stranger:
    """A thing that can't be compared or counted, so nothing but its kind can be asked."""

    __hash__ = None

    def __eq__(self, other):
        raise RuntimeError("compared")

    def __len__(self):
        raise RuntimeError("counted")

    def __bool__(self):
        raise RuntimeError("asked")


HUGE = 10 ** 5000


def no_numbers():
    return [True, False, "", "0", "1", [], [0], (), (0,), {}, {0: 0}, set(), b"", b"0", len, object(), Stranger()]


def no_names():
    return [
        None, True, False, 0, 1, -1, HUGE, [], ["a"], (), ("a",), {}, {"a": 1}, set(), b"a", len, object(),
        Stranger(),
        "", "abcdefghi", "a" * 1000, "A", "aB", "Z", "a b", " ", " a", "a ", "a\n", "\n", "a_b", "_", "-", "a-1",
        "a.b", "s/0", "`", "{", "@", "[", ":", "/", "\x00", "\xe4", "\xdf", "\u0131", "\u0661", "\xb2", "\uff41",
        "a\u0301", "\ud800",
    ]


def no_bytes():
    return [
        None, True, False, 0, 1, -1, HUGE, "", "a", "abc", [], [1], [1, 2], {}, {1: 2}, set(), b"", b"ab", len,
        object(), Stranger(), range(3),
        (True,), (False,), (None,), ("",), ("a",), ((),), ((1,),), ([],), ({},), (-1,), (256,), (1000,), (HUGE,),
        (-HUGE,), (len,), (Stranger(),),
        (1, 2, True), (1, False, 2), (None, 1, 2), (1, 256), (0, 255, -1), (1, 2, "3"), (1, (2,)), (1, [2]),
    ]


def sealed(*behind):
    """The bytes of a row with right checks, whatever these bytes tell; summed up in another way than the program."""
    first = 0
    second = 0
    for place in range(len(behind)):
        first = (first + behind[place]) % 256
        second = (second + (place + 1) * behind[place]) % 256
    return (first, second) + behind


def bytes_by_the_document(row):
    kind, number, body = row
    figures = tuple(number.to_bytes(3, "big"))
    return sealed(BYTES_OF_KINDS[kind], *figures, len(body), *body)


def bytes_of_rows(rows):
    return sum([bytes_by_the_document(row) for row in rows], ())


def no_bodies():
    return no_bytes() + [(0,) * 61, (255,) * 62, (7,) * 255, (7,) * 256, (1,) * 60 + (256,), (True,) * 3]


def no_hands():
    return no_names() + ["abcdefg", "abcdefgh", "0", "a1", "1a", "abcde0", "s0", "9", "Abc", "abC"]


def files_of(disk):
    return {name: disk.read(name) for name in disk.names()}


def disk_with(files, steps):
    disk = Disk(None)
    for name, some in files.items():
        disk.make(name)
        disk.add(name, some)
    disk.go_on(steps)
    return disk


def disk_of_rows(segments, steps=None):
    """A disk with segments told as lists of rows, or as bytes."""
    files = {}
    for name, held in segments.items():
        files[name] = bytes_of_rows(held) if isinstance(held, list) else held
    return disk_with(files, steps)


def copy_of(disk, steps):
    return disk_with(files_of(disk), steps)
