import itertools
import random
import unittest

from labelplace.boxes import bits, cells_of, lies_in, meet
from told import told_cells


def told_bits(box, wide):
    return sum(2 ** (y * wide + x) for x, y in told_cells(box))


def some_box(chance, wide, high):
    box_wide, box_high = chance.randint(1, wide), chance.randint(1, high)
    return (chance.randint(0, wide - box_wide), chance.randint(0, high - box_high), box_wide, box_high)


SMALL = [
    (x, y, wide, high)
    for x in range(-2, 4) for y in range(-2, 4) for wide in range(1, 4) for high in range(1, 4)
]
LONG = [(0, 0, 1, 100), (0, 0, 100, 1), (-100, -100, 100, 100), (100, 100, 100, 100), (-100, 5, 100, 1), (7, -100, 1, 100)]


class CellsOf(unittest.TestCase):
    def test_written_out(self):
        self.assertEqual(cells_of((2, 3, 3, 2)), [(2, 3), (3, 3), (4, 3), (2, 4), (3, 4), (4, 4)])
        self.assertEqual(cells_of((0, 0, 1, 1)), [(0, 0)])
        self.assertEqual(cells_of((-2, -1, 2, 2)), [(-2, -1), (-1, -1), (-2, 0), (-1, 0)])

    def test_each_cell_once_line_by_line_from_the_left(self):
        for box in SMALL + LONG:
            cells = cells_of(box)
            self.assertIs(type(cells), list)
            self.assertEqual(len(cells), box[2] * box[3], box)
            self.assertEqual(cells, sorted(told_cells(box), key=lambda cell: (cell[1], cell[0])), box)

    def test_cells_are_tuples_of_two_whole_numbers(self):
        for box in SMALL + LONG:
            for cell in cells_of(box):
                self.assertIs(type(cell), tuple)
                self.assertEqual([type(part) for part in cell], [int, int])

    def test_one_cell_wide_or_high_and_up_to_a_hundred_long(self):
        for size in range(1, 101):
            self.assertEqual(cells_of((-3, 4, size, 1)), [(-3 + step, 4) for step in range(size)])
            self.assertEqual(cells_of((-3, 4, 1, size)), [(-3, 4 + step) for step in range(size)])

    def test_a_told_list_is_the_askers_own(self):
        box = (1, -1, 2, 3)
        first = cells_of(box)
        kept = list(first)
        first.clear()
        second = cells_of(box)
        self.assertEqual(second, kept)
        second.append((9, 9))
        self.assertEqual(cells_of(box), kept)
        self.assertEqual(box, (1, -1, 2, 3))


class Meet(unittest.TestCase):
    def hold(self, one, other, told):
        self.assertIs(meet(one, other), told, (one, other))
        self.assertIs(meet(other, one), told, (other, one))

    def test_just_where_a_cell_is_in_both(self):
        cells = {box: told_cells(box) for box in SMALL}
        for one, other in itertools.combinations_with_replacement(SMALL, 2):
            self.hold(one, other, not cells[one].isdisjoint(cells[other]))

    def test_long_boxes(self):
        for one, other in itertools.product(LONG, LONG + SMALL[::7]):
            self.hold(one, other, not told_cells(one).isdisjoint(told_cells(other)))

    def test_touching_at_a_side(self):
        self.hold((0, 0, 3, 2), (3, 0, 3, 2), False)
        self.hold((0, 0, 3, 2), (0, 2, 3, 2), False)
        self.hold((0, 0, 3, 2), (2, 0, 3, 2), True)
        self.hold((0, 0, 3, 2), (0, 1, 3, 2), True)

    def test_touching_at_a_corner(self):
        self.hold((0, 0, 3, 2), (3, 2, 1, 1), False)
        self.hold((0, 0, 3, 2), (2, 1, 1, 1), True)
        self.hold((0, 0, 3, 2), (-1, 2, 1, 1), False)
        self.hold((0, 0, 3, 2), (-1, 1, 2, 2), True)

    def test_one_within_the_other_and_itself(self):
        self.hold((0, 0, 10, 10), (4, 5, 1, 1), True)
        self.hold((-5, -5, 10, 10), (-5, -5, 2, 2), True)
        self.hold((3, 3, 2, 2), (3, 3, 2, 2), True)

    def test_crossing_without_a_corner_of_one_in_the_other(self):
        self.hold((0, 3, 7, 1), (3, 0, 1, 7), True)


class LiesIn(unittest.TestCase):
    def test_just_where_each_cell_lies_in_the_sheet(self):
        for wide, high in itertools.product(range(1, 5), range(1, 5)):
            for box in SMALL:
                told = all(0 <= x < wide and 0 <= y < high for x, y in told_cells(box))
                self.assertIs(lies_in(box, wide, high), told, (box, wide, high))

    def test_each_side_overstepped_by_one(self):
        for wide, high in ((1, 1), (1, 20), (20, 1), (7, 5), (20, 20)):
            self.assertIs(lies_in((0, 0, wide, high), wide, high), True)
            self.assertIs(lies_in((-1, 0, wide, high), wide, high), False)
            self.assertIs(lies_in((0, -1, wide, high), wide, high), False)
            self.assertIs(lies_in((1, 0, wide, high), wide, high), False)
            self.assertIs(lies_in((0, 1, wide, high), wide, high), False)
            self.assertIs(lies_in((0, 0, wide + 1, high), wide, high), False)
            self.assertIs(lies_in((0, 0, wide, high + 1), wide, high), False)

    def test_last_cell_and_the_one_behind_it(self):
        self.assertIs(lies_in((19, 9, 1, 1), 20, 10), True)
        self.assertIs(lies_in((20, 9, 1, 1), 20, 10), False)
        self.assertIs(lies_in((19, 10, 1, 1), 20, 10), False)
        self.assertIs(lies_in((-100, -100, 100, 100), 20, 20), False)


class Bits(unittest.TestCase):
    def test_written_out(self):
        self.assertEqual(bits((0, 0, 1, 1), 1), 1)
        self.assertEqual(bits((0, 0, 3, 1), 3), 7)
        self.assertEqual(bits((1, 0, 1, 2), 3), 2 + 16)
        self.assertEqual(bits((0, 1, 2, 1), 4), 16 + 32)
        self.assertEqual(bits((19, 19, 1, 1), 20), 2 ** 399)
        self.assertEqual(bits((0, 0, 20, 20), 20), 2 ** 400 - 1)

    def test_each_box_of_small_sheets(self):
        for wide, high in itertools.product(range(1, 6), range(1, 6)):
            for x, y in itertools.product(range(wide), range(high)):
                for box_wide, box_high in itertools.product(range(1, wide - x + 1), range(1, high - y + 1)):
                    box = (x, y, box_wide, box_high)
                    self.assertEqual(bits(box, wide), told_bits(box, wide), (box, wide))

    def test_sheets_up_to_twenty_by_twenty(self):
        chance = random.Random(4)
        for wide, high in itertools.product(range(1, 21), range(1, 21)):
            boxes = [(0, 0, wide, high), (wide - 1, high - 1, 1, 1), (0, high - 1, wide, 1), (wide - 1, 0, 1, high)]
            for box in boxes + [some_box(chance, wide, high) for _ in range(8)]:
                told = bits(box, wide)
                self.assertIs(type(told), int)
                self.assertEqual(told, told_bits(box, wide), (box, wide))

    def test_a_bit_in_common_just_where_they_meet(self):
        chance = random.Random(5)
        for wide, high in itertools.product(range(1, 21), range(1, 21)):
            for _ in range(8):
                one, other = some_box(chance, wide, high), some_box(chance, wide, high)
                self.assertEqual(bits(one, wide) & bits(other, wide) != 0, meet(one, other), (one, other, wide))


if __name__ == "__main__":
    unittest.main()
