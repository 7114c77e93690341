import unittest

from labelplace.boxes import cells_of
from labelplace.ways import box_at
from told import TOLD

POINTS = [(0, 0), (19, 0), (0, 19), (19, 19), (3, 12), (10, 7)]


class BoxAt(unittest.TestCase):
    def test_written_out(self):
        self.assertEqual(box_at("right", 5, 6, 3), (6, 6, 3, 1))
        self.assertEqual(box_at("left", 5, 6, 3), (2, 6, 3, 1))
        self.assertEqual(box_at("above", 5, 6, 3), (4, 5, 3, 1))
        self.assertEqual(box_at("below", 5, 6, 4), (4, 7, 4, 1))
        self.assertEqual(box_at("above", 5, 6, 8), (2, 5, 8, 1))
        self.assertEqual(box_at("up", 5, 6, 3), (5, 3, 1, 3))
        self.assertEqual(box_at("down", 5, 6, 3), (5, 7, 1, 3))

    def test_each_way_with_each_size(self):
        for way, told in TOLD.items():
            for size in range(1, 9):
                for x, y in POINTS:
                    box = box_at(way, x, y, size)
                    self.assertIs(type(box), tuple)
                    self.assertEqual([type(part) for part in box], [int] * 4)
                    self.assertEqual(box, told(x, y, size), (way, x, y, size))

    def test_as_many_cells_as_letters_and_never_the_points_own(self):
        for way in TOLD:
            for size in range(1, 9):
                for point in POINTS:
                    cells = cells_of(box_at(way, point[0], point[1], size))
                    self.assertEqual(len(cells), size)
                    self.assertNotIn(point, cells)

    def test_every_box_is_beside_its_point(self):
        for way in TOLD:
            for size in range(1, 9):
                cells = cells_of(box_at(way, 10, 10, size))
                self.assertIn(1, [abs(x - 10) + abs(y - 10) for x, y in cells], (way, size))

    def test_two_ways_of_one_letter_may_tell_the_same_box(self):
        self.assertEqual(box_at("above", 4, 4, 1), box_at("up", 4, 4, 1))
        self.assertEqual(box_at("below", 4, 4, 1), box_at("down", 4, 4, 1))


if __name__ == "__main__":
    unittest.main()
