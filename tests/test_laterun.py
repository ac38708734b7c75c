import random
import unittest

from lateforms.errors import GoneCell
from lateforms.latecells import asked, cell_value, cells_of, needed, plain_store, read_cells, room, schema_at
from lateforms.latechecker import lets_late
from lateforms.latesteps import converted, forgotten
from lateforms.tellchecker import lets_told
from lateforms.tellings import told_paper
from tests.lateruns import (
    Run, all_cells, asked_in, converted_in, forgotten_in, held_in, needed_in, reads_in, tellable_in, value_in,
)
from tests.samples import Case


class TestRandomRuns(Case):
    """[7], [8], [46] to [48], [52], [53]"""

    def check(self, run):
        late, history = run.late, run.history
        self.exactly(plain_store(late), history[-1])
        self.exactly([schema_at(late, v) for v in range(len(history))], [plain[0] for plain in history])
        cells = all_cells(history)
        self.exactly(list(cells_of(late)), cells)
        self.exactly(asked(late), tuple(asked_in(late, history)))
        self.exactly(needed(late), tuple(needed_in(late, history)))
        self.exactly(lets_late(late), (len(late[2]), len(held_in(late, history))))
        self.exactly(room(late), len([cell for cell in needed_in(late, history) if cell[1] <= late[2][cell[0]][3]]))

    def check_cells(self, run):
        late, history = run.late, run.history
        told = tellable_in(late, history)
        for cell in all_cells(history):
            if cell in told:
                self.exactly(cell_value(late, cell), value_in(history, cell))
                self.exactly(read_cells(late, cell), reads_in(late, history, cell))
                self.exactly(lets_told(late, cell, told_paper(late, cell)), value_in(history, cell))
            else:
                for call in (cell_value, read_cells, told_paper):
                    self.refused(GoneCell, {"cell": cell}, call, late, cell)

    def check_conversions(self, run):
        late, history = run.late, run.history
        self.exactly(forgotten(late), forgotten_in(late, history))
        self.exactly(forgotten(forgotten(late)), forgotten(late))
        self.exactly([room(late), len(held_in(forgotten(late), history))], [room(forgotten(late)), room(late)])
        expected = late
        for number in run.pending():
            self.exactly(converted(late, number), converted_in(late, history, number))
            expected = converted_in(expected, history, number)
        self.exactly(converted(late, *run.pending()), expected)
        for number in run.living():
            after = converted(late, number)
            self.assertLessEqual(set(needed(after)), set(needed(late)))
            self.exactly(plain_store(after), history[-1])
            lets_late(after)
            lets_late(forgotten(after))

    def check_orders(self, run):
        """(C3)"""
        left = forgotten(converted(run.late, *run.pending()))
        for _ in range(3):
            late = run.late
            for number in run.rng.sample(run.pending(), len(run.pending())):
                late = converted(late, number)
                if run.rng.random() < 0.5:
                    late = forgotten(late)
            self.exactly(forgotten(late), left)

    def test_steps(self):
        words = {}
        for seed in range(120):
            run = Run(random.Random(seed))
            for _ in range(run.rng.randint(1, 30)):
                word = run.step()
                words[word] = words.get(word, 0) + 1
                self.check(run)
            self.check_cells(run)
            self.check_conversions(run)
            self.check_orders(run)
        self.assertEqual(len(words), 9, words)

    def test_forgetting_behind_each_step(self):
        for seed in range(60):
            run = Run(random.Random(seed))
            for _ in range(25):
                run.step()
                run.late = forgotten(run.late)
                self.check(run)
                self.exactly(held_in(run.late, run.history),
                             [cell for cell in needed(run.late) if cell[1] <= run.late[2][cell[0]][3]])
            self.check_cells(run)
            self.check_conversions(run)
            self.check_orders(run)

    def test_without_any_of_them(self):
        """(C2): without a held cell behind forgetting, an asked cell cannot be told."""
        for seed in range(40):
            run = Run(random.Random(seed))
            for _ in range(20):
                run.step()
            late = forgotten(run.late)
            for cell in held_in(late, run.history):
                self.assertFalse(set(asked(late)) <= tellable_in(without(late, run.history, cell), run.history))


def without(late, history, cell):
    """The late store in which a held cell is gone."""
    schema, changes, rows, kept, pins = late
    number, version, field = cell
    cls, born, end, current, values = rows[number]
    if version < current:
        return (schema, changes, rows, tuple(entry for entry in kept if entry[:3] != cell), pins)
    names = [name for name, _ in dict(history[current][0])[cls]]
    values = tuple("gone" if name == field else value for name, value in zip(names, values))
    return (schema, changes, rows[:number] + ((cls, born, end, current, values),) + rows[number + 1:], kept, pins)


if __name__ == "__main__":
    unittest.main()
