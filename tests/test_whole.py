"""Long runs, deed by deed beside a model of the document; the runs are chosen by chance, the same ones each time."""

import random
import unittest

from chosen import settings_for, some_deed
from model import Model
from queuehold.disk import Disk
from queuehold.queues import Queue
from queuehold.rows import rows_in
from queuehold.rules import made
from queuehold.runs import do
from samples import files_of


class WholeTest(unittest.TestCase):
    def same(self, queue, disk, model):
        self.assertEqual(queue.letters(), model.letters())
        self.assertEqual((queue.ready(), queue.dead(), queue.held()), (model.ready(), model.dead(), model.held()))
        self.assertEqual((queue.coming(), queue.clock()), (model.coming, model.clock))
        self.assertEqual(queue.sizes(), model.sizes())
        self.assertEqual(files_of(disk), model.files())

    def one_run(self, seed, many):
        chance = random.Random(seed)
        settings = settings_for(chance)
        disk = Disk(None)
        queue = Queue(disk, *settings)
        model = Model(*settings)
        self.same(queue, disk, model)
        for _ in range(many):
            deed = some_deed(chance, model)
            with self.subTest(seed=seed, deed=deed):
                self.assertEqual(do(queue, deed), model.do(deed))
                self.same(queue, disk, model)
            if chance.random() < 0.03:
                queue = Queue(disk, *settings)
                model.opened_anew()
                self.same(queue, disk, model)
        rows = []
        for name in sorted(disk.names(), key=lambda name: int(name[1:])):
            found, rest = rows_in(disk.read(name))
            self.assertEqual(rest, 0)
            rows += found
        self.assertEqual(made(rows), (queue.letters(), queue.coming()))

    def test_many_runs(self):
        for seed in range(60):
            self.one_run(seed, 80)

    def test_a_long_run(self):
        self.one_run(1000, 700)


if __name__ == "__main__":
    unittest.main()
