"""[4], pictures, and the section pictureframes/pictures.py."""

from pictureframes.errors import InvalidColour, InvalidCount, InvalidPicture, InvalidSide, LastLine, OutOfRange
from pictureframes.pictures import Picture
from samples import NO_COLOURS, NO_LENGTHS, NO_SIDES, SIDES, UNLIKE, RaisingCase


class Base(RaisingCase):

    def setUp(self):
        self.row = Picture([[1, 2, 3]])
        self.column = Picture([[1], [2], [3]])
        self.large = Picture(UNLIKE)


class TestExamples(Base):

    def test_numbered(self):
        self.assertEqual(repr(Picture.numbered(2, 2, first=5).rows), "((5, 6), (7, 8))")

    def test_cell(self):
        picture = Picture([[1, 2], [3, 4]])
        self.assertEqual(repr(picture[1, 0]), "3")

    def test_line(self):
        self.assertEqual(repr(Picture([[1, 2], [3, 4]]).line("right")), "(2, 4)")

    def test_turned(self):
        self.assertEqual(repr(Picture([[1, 2], [3, 4]]).turned().rows), "((3, 1), (4, 2))")

    def test_added(self):
        self.assertEqual(repr(Picture([[1, 2], [3, 4]]).added("left", 9).rows), "((9, 1, 2), (9, 3, 4))")


class TestMaking(Base):

    def test_lists_and_tuples(self):
        for rows in ([[1, 2], [3, 4]], ((1, 2), (3, 4)), [(1, 2), [3, 4]], ([1, 2], (3, 4))):
            self.assertEqual(Picture(rows).rows, ((1, 2), (3, 4)))
            self.assertEqual(Picture(rows=rows).rows, ((1, 2), (3, 4)))

    def test_rows_are_tuples(self):
        for rows in ([[1, 2]], [(1, 2)], ([1, 2],)):
            held = Picture(rows).rows
            self.assertIs(type(held), tuple)
            self.assertIs(type(held[0]), tuple)

    def test_least_and_long(self):
        self.assertEqual(Picture([[0]]).rows, ((0,),))
        self.assertEqual(Picture([[10 ** 99]])[0, 0], 10 ** 99)
        self.assertEqual(Picture([[7] * 1100]).width, 1100)
        self.assertEqual(Picture([[7]] * 1100).height, 1100)

    def test_refused(self):
        wrong = [
            None, True, 0, 5, "", "12", b"12", {}, {0: [1]}, {1}, object(), range(2), iter([[1]]), Picture([[1]]),
            [], (), [[]], [()], ([], []), [[], [1]], [[1], []],
            [[1, 2], [3]], [[1], [2, 3]], [[1, 2], [3, 4], [5]], ((1,), (2, 3)),
            [1], [1, 2], [[1], 2], [2, [1]], [None], [[1], None], ["1"], ["12", "34"], [[1], "1"], [b"1"], [range(1)],
            [{1: 2}], [{1}], [[[1]]], [[(1,)]],
            [[True]], [[False]], [[0, True]], [[1], [False]], [[-1]], [[1, -1]], [[1], [-10 ** 99]],
            [["1"]], [[""]], [[1, "2"]], [[b"1"]], [[None]], [[1, None]], [[1], [None]], [[{}]], [[object()]],
        ]
        for value in wrong:
            self.assert_raises(InvalidPicture, {"value": value}, Picture, value)
            self.assert_raises(InvalidPicture, {"value": value}, Picture, rows=value)

    def test_a_list_in_itself(self):
        rows = []
        rows.append(rows)
        self.assert_raises(InvalidPicture, {"value": rows}, Picture, rows)

    def test_later_changes_of_the_lists(self):
        rows = [[1, 2], [3, 4]]
        picture = Picture(rows)
        rows[0][0] = 9
        rows[1].append(5)
        rows.append("no row")
        self.assertEqual(picture.rows, ((1, 2), (3, 4)))
        self.assertEqual((picture.height, picture.width), (2, 2))

    def test_argument_is_not_changed(self):
        rows = [[1, 2], [3, 4]]
        Picture(rows).added("top", 1).turned().cut("left")
        self.assertEqual(rows, [[1, 2], [3, 4]])

    def test_filled(self):
        self.assertEqual(Picture.filled(2, 3, 7).rows, ((7, 7, 7), (7, 7, 7)))
        self.assertEqual(Picture.filled(1, 1, 0).rows, ((0,),))
        self.assertEqual(Picture.filled(1, 3, 7).rows, ((7, 7, 7),))
        self.assertEqual(Picture.filled(3, 1, 7).rows, ((7,), (7,), (7,)))
        self.assertEqual(Picture.filled(colour=7, width=1, height=2).rows, ((7,), (7,)))

    def test_filled_refuses(self):
        for value in NO_LENGTHS:
            self.assert_raises(InvalidCount, {"value": value}, Picture.filled, value, 2, 7)
            self.assert_raises(InvalidCount, {"value": value}, Picture.filled, 2, value, 7)
        for value in NO_COLOURS:
            self.assert_raises(InvalidColour, {"value": value}, Picture.filled, 2, 2, value)

    def test_filled_raises_the_leftmost(self):
        self.assert_raises(InvalidCount, {"value": 0}, Picture.filled, 0, -1, -2)
        self.assert_raises(InvalidCount, {"value": -1}, Picture.filled, 1, -1, -2)
        self.assert_raises(InvalidCount, {"value": 0}, Picture.filled, colour=-2, width=-1, height=0)

    def test_numbered(self):
        self.assertEqual(Picture.numbered(2, 3).rows, ((0, 1, 2), (3, 4, 5)))
        self.assertEqual(Picture.numbered(3, 2, first=10).rows, ((10, 11), (12, 13), (14, 15)))
        self.assertEqual(Picture.numbered(1, 1).rows, ((0,),))
        self.assertEqual(Picture.numbered(1, 3, first=4).rows, ((4, 5, 6),))
        self.assertEqual(Picture.numbered(3, 1, first=4).rows, ((4,), (5,), (6,)))
        self.assertEqual(Picture.numbered(1, 2, first=10 ** 99).rows, ((10 ** 99, 10 ** 99 + 1),))
        self.assertEqual(Picture.numbered(first=1, width=1, height=2).rows, ((1,), (2,)))

    def test_numbered_refuses(self):
        for value in NO_LENGTHS:
            self.assert_raises(InvalidCount, {"value": value}, Picture.numbered, value, 2)
            self.assert_raises(InvalidCount, {"value": value}, Picture.numbered, 2, value)
        for value in NO_COLOURS:
            self.assert_raises(InvalidColour, {"value": value}, Picture.numbered, 2, 2, first=value)

    def test_numbered_raises_the_colour_last(self):
        self.assert_raises(InvalidCount, {"value": True}, Picture.numbered, True, 0, first=-1)
        self.assert_raises(InvalidCount, {"value": 0}, Picture.numbered, 2, 0, first=-1)
        self.assert_raises(InvalidCount, {"value": 0}, Picture.numbered, first=-1, width=0, height=2)

    def test_first_is_given_by_name_only(self):
        with self.assertRaises(TypeError):
            Picture.numbered(2, 2, 5)


class TestReading(Base):

    def test_sizes(self):
        self.assertEqual((self.row.height, self.row.width), (1, 3))
        self.assertEqual((self.column.height, self.column.width), (3, 1))
        self.assertEqual((self.large.height, self.large.width), (2, 3))

    def test_cells(self):
        for row in range(2):
            for column in range(3):
                self.assertEqual(self.large[row, column], UNLIKE[row][column])
        self.assertEqual(self.column[2, 0], 3)
        self.assertEqual(self.row[0, 2], 3)

    def test_no_such_cell(self):
        for key in ((2, 0), (0, 3), (2, 3), (3, 2), (10 ** 99, 0), (0, 10 ** 99), (-1, 0), (0, -1), (-1, -1), (-2, -3)):
            self.assert_raises(OutOfRange, {"value": key}, self.large.__getitem__, key)
        self.assert_raises(OutOfRange, {"value": (0, 1)}, self.column.__getitem__, (0, 1))
        self.assert_raises(OutOfRange, {"value": (1, 0)}, self.row.__getitem__, (1, 0))

    def test_no_cell_of_another_kind(self):
        for value in (True, False, None, "0", "", b"0", (0,), [0], {}, object(), slice(0, 1)):
            for key in ((value, 0), (0, value), (value, value)):
                with self.assertRaises(OutOfRange) as caught:
                    self.large[key]
                held = caught.exception.value
                self.assertIs(type(held), tuple)
                self.assertEqual(len(held), 2)
                self.assertIs(held[0], key[0])
                self.assertIs(held[1], key[1])

    def test_colour_in_picture(self):
        for colour in range(1, 7):
            self.assertIs(colour in self.large, True)
        for colour in (0, 7, 10 ** 99):
            self.assertIs(colour in self.large, False)
        self.assertIs(0 in Picture([[1, 0]]), True)

    def test_lines(self):
        lines = [(1, 2, 3), (3, 6), (4, 5, 6), (1, 4)]
        self.assertEqual([self.large.line(side) for side in SIDES], lines)
        self.assertEqual([self.row.line(side) for side in SIDES], [(1, 2, 3), (3,), (1, 2, 3), (1,)])
        self.assertEqual([self.column.line(side) for side in SIDES], [(1,), (1, 2, 3), (3,), (1, 2, 3)])
        self.assertEqual(self.large.line(side="left"), (1, 4))
        for side in SIDES:
            self.assertIs(type(self.large.line(side)), tuple)

    def test_line_refuses(self):
        for value in NO_SIDES:
            self.assert_raises(InvalidSide, {"value": value}, self.large.line, value)

    def test_equality(self):
        self.assertTrue(Picture([[1, 2]]) == Picture(((1, 2),)))
        self.assertFalse(Picture([[1, 2]]) != Picture(((1, 2),)))
        for other in ([[1, 3]], [[2, 1]], [[1], [2]], [[1]], [[1, 2], [1, 2]]):
            self.assertTrue(Picture([[1, 2]]) != Picture(other))
            self.assertFalse(Picture([[1, 2]]) == Picture(other))
        for other in (None, True, 1, "Picture(((1, 2),))", [[1, 2]], ((1, 2),), Picture, object()):
            self.assertIs(Picture([[1, 2]]) == other, False)
            self.assertIs(other == Picture([[1, 2]]), False)
            self.assertIs(Picture([[1, 2]]) != other, True)

    def test_repr(self):
        self.assertEqual(repr(self.large), "Picture(((1, 2, 3), (4, 5, 6)))")
        self.assertEqual(repr(Picture([[0]])), "Picture(((0,),))")
        self.assertEqual(repr(Picture([[1], [2]])), "Picture(((1,), (2,)))")


class TestChanging(Base):

    def test_turned(self):
        self.assertEqual(self.large.turned().rows, ((4, 1), (5, 2), (6, 3)))
        self.assertEqual(self.row.turned().rows, ((1,), (2,), (3,)))
        self.assertEqual(self.column.turned().rows, ((3, 2, 1),))
        self.assertEqual(self.large.turned().turned().turned().turned(), self.large)

    def test_top_comes_to_the_right(self):
        self.assertEqual(self.large.turned().line("right"), self.large.line("top"))

    def test_mirrored(self):
        self.assertEqual(self.large.mirrored().rows, ((3, 2, 1), (6, 5, 4)))
        self.assertEqual(self.row.mirrored().rows, ((3, 2, 1),))
        self.assertEqual(self.column.mirrored(), self.column)

    def test_cut(self):
        cut = [self.large.cut(side).rows for side in SIDES]
        self.assertEqual(cut, [((4, 5, 6),), ((1, 2), (4, 5)), ((1, 2, 3),), ((2, 3), (5, 6))])
        self.assertEqual(self.large.cut(side="left").rows, ((2, 3), (5, 6)))
        self.assertEqual(self.row.cut("right").rows, ((1, 2),))
        self.assertEqual(self.row.cut("left").rows, ((2, 3),))
        self.assertEqual(self.column.cut("top").rows, ((2,), (3,)))
        self.assertEqual(self.column.cut("bottom").rows, ((1,), (2,)))

    def test_cut_of_the_last_line(self):
        for side in ("top", "bottom"):
            self.assert_raises(LastLine, {"index": 0}, self.row.cut, side)
        for side in ("right", "left"):
            self.assert_raises(LastLine, {"index": 0}, self.column.cut, side)
        for side in SIDES:
            self.assert_raises(LastLine, {"index": 0}, Picture([[5]]).cut, side)

    def test_cut_refuses(self):
        for value in NO_SIDES:
            self.assert_raises(InvalidSide, {"value": value}, self.large.cut, value)
            self.assert_raises(InvalidSide, {"value": value}, Picture([[5]]).cut, value)

    def test_added(self):
        added = [self.large.added(side, 9).rows for side in SIDES]
        self.assertEqual(added, [
            ((9, 9, 9), (1, 2, 3), (4, 5, 6)),
            ((1, 2, 3, 9), (4, 5, 6, 9)),
            ((1, 2, 3), (4, 5, 6), (9, 9, 9)),
            ((9, 1, 2, 3), (9, 4, 5, 6)),
        ])
        self.assertEqual(self.large.added(colour=0, side="top").rows[0], (0, 0, 0))
        self.assertEqual(self.row.added("left", 9).rows, ((9, 1, 2, 3),))
        self.assertEqual(self.row.added("bottom", 9).rows, ((1, 2, 3), (9, 9, 9)))
        self.assertEqual(self.column.added("top", 9).rows, ((9,), (1,), (2,), (3,)))
        self.assertEqual(self.column.added("right", 9).rows, ((1, 9), (2, 9), (3, 9)))

    def test_added_refuses(self):
        for value in NO_SIDES:
            self.assert_raises(InvalidSide, {"value": value}, self.large.added, value, 9)
            self.assert_raises(InvalidSide, {"value": value}, self.large.added, value, -1)
            self.assert_raises(InvalidSide, {"value": value}, self.large.added, colour=-1, side=value)
        for value in NO_COLOURS:
            self.assert_raises(InvalidColour, {"value": value}, self.large.added, "top", value)

    def test_the_picture_itself_stays(self):
        self.large.turned()
        self.large.mirrored()
        for side in SIDES:
            self.large.cut(side)
            self.large.added(side, 9)
            with self.assertRaises(InvalidColour):
                self.large.added(side, -1)
        with self.assertRaises(LastLine):
            self.row.cut("top")
        self.assertEqual(self.large.rows, UNLIKE)
        self.assertEqual(self.row.rows, ((1, 2, 3),))

    def test_results_are_pictures(self):
        results = [Picture.filled(1, 1, 1), Picture.numbered(1, 1), self.large.turned(), self.large.mirrored()]
        for result in results + [self.large.cut("top"), self.large.added("top", 1)]:
            self.assertIs(type(result), Picture)
