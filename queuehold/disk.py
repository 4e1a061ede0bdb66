"""A disk: files of bytes under names, changed step by step until no steps are left."""

from queuehold.bounds import is_bytes, is_number, is_word
from queuehold.errors import BadName, BadNumber, BadRow, Missing, Stopped, There

NAME_SIGNS = "abcdefghijklmnopqrstuvwxyz0123456789"
LONGEST_NAME = 8
MOST_STEPS = 100000


# The words of the errors show no thing that was handed in: it may be a number too long to be written out.
def check_name(name):
    if not is_word(name, NAME_SIGNS, LONGEST_NAME):
        raise BadName("a name is a text of 1 to 8 signs a to z and 0 to 9")


def check_steps(steps):
    if steps is not None and not is_number(steps, 0, MOST_STEPS):
        raise BadNumber("steps are 0 to 100000, or None for no end")


class Disk:
    def __init__(self, steps):
        check_steps(steps)
        self.files = {}
        self.steps_done = 0
        self.steps_ahead = steps

    def go_on(self, steps):
        check_steps(steps)
        self.steps_ahead = steps

    def make(self, name):
        check_name(name)
        if name in self.files:
            raise There("a file of this name is there")
        self.count_step()
        self.files[name] = []

    def add(self, name, some):
        self.check_file(name)
        if not is_bytes(some):
            raise BadRow("what is added is a tuple of numbers from 0 to 255")
        for one in some:
            # Each byte is a step of its own, so that those ahead of a stop stay.
            self.count_step()
            self.files[name].append(one)

    def cut(self, name, size):
        self.check_file(name)
        if not is_number(size, 0, len(self.files[name])):
            raise BadNumber("a file is cut to a size from 0 to its own")
        self.count_step()
        self.files[name] = self.files[name][:size]

    def drop(self, name):
        self.check_file(name)
        self.count_step()
        self.files.pop(name)

    def names(self):
        return sorted(self.files)

    def read(self, name):
        self.check_file(name)
        return tuple(self.files[name])

    def size(self, name):
        self.check_file(name)
        return len(self.files[name])

    def steps(self):
        return self.steps_done

    def left(self):
        return self.steps_ahead

    def check_file(self, name):
        check_name(name)
        if name not in self.files:
            raise Missing("no file of this name is there")

    def count_step(self):
        # Called ahead of the change itself, so that a step that is refused is not done.
        if self.steps_ahead == 0:
            raise Stopped("the disk has no steps left")
        if self.steps_ahead is not None:
            self.steps_ahead -= 1
        self.steps_done += 1
