"""[5], steps and sequences, and the section pictureframes/running.py."""

import inspect

from pictureframes.errors import InvalidPicture, InvalidSequence, LastLine
from pictureframes.pictures import Picture
from pictureframes.running import check_steps, pictures_along, run
from samples import MIRROR, NO_PICTURES, NO_SEQUENCES, SIDES, TURN, UNLIKE, RaisingCase, all_wrong_steps

STEPS = (
    [TURN, MIRROR] + [("cut", side) for side in SIDES]
    + [("add", side, colour) for side in SIDES for colour in (0, 7, 10 ** 99)]
)


class TestExamples(RaisingCase):

    def test_check_steps(self):
        self.assert_raises(InvalidSequence, {"index": 1}, check_steps, [("turn",), ("cut", "up")])

    def test_run_adding(self):
        result = run(Picture([[1, 2], [3, 4]]), [("add", "top", 7), ("add", "left", 8)]).rows
        self.assertEqual(repr(result), "((8, 7, 7), (8, 1, 2), (8, 3, 4))")

    def test_run_cutting_what_was_added(self):
        result = run(Picture([[1, 2], [3, 4]]), [("add", "top", 7), ("turn",), ("cut", "right")]).rows
        self.assertEqual(repr(result), "((3, 1), (4, 2))")


class TestCheckSteps(RaisingCase):

    def test_sequences(self):
        for steps in ([], (), STEPS, tuple(STEPS), [TURN] * 200, (("cut", "top"),) * 200):
            self.assertIsNone(check_steps(steps))
            self.assertIsNone(check_steps(steps=steps))
        for step in STEPS:
            self.assertIsNone(check_steps([step]))

    def test_no_sequence(self):
        for value in NO_SEQUENCES:
            self.assert_raises(InvalidSequence, {"index": None}, check_steps, value)
            self.assert_raises(InvalidSequence, {"index": None}, check_steps, steps=value)

    def test_each_wrong_step(self):
        for wrong in all_wrong_steps():
            self.assert_raises(InvalidSequence, {"index": 0}, check_steps, [wrong])
            self.assert_raises(InvalidSequence, {"index": 0}, check_steps, (wrong,))
            self.assert_raises(InvalidSequence, {"index": 2}, check_steps, [TURN, MIRROR, wrong, TURN])

    def test_index_of_the_first_wrong_step(self):
        self.assert_raises(InvalidSequence, {"index": 1}, check_steps, [TURN, None, ("cut", "up"), TURN])
        self.assert_raises(InvalidSequence, {"index": 199}, check_steps, [TURN] * 199 + [None])
        self.assert_raises(InvalidSequence, {"index": None}, check_steps, [None] + [TURN] * 200)

    def test_a_step_is_no_sequence(self):
        self.assert_raises(InvalidSequence, {"index": 0}, check_steps, TURN)
        self.assert_raises(InvalidSequence, {"index": 0}, check_steps, ("cut", "top"))


class TestRun(RaisingCase):

    def test_each_step(self):
        picture = Picture(UNLIKE)
        self.assertEqual(run(picture, [TURN]), picture.turned())
        self.assertEqual(run(picture, [MIRROR]), picture.mirrored())
        for side in SIDES:
            self.assertEqual(run(picture, [("cut", side)]), picture.cut(side))
            self.assertEqual(run(picture, [("add", side, 9)]), picture.added(side, 9))

    def test_several_steps(self):
        steps = [("cut", "left"), TURN, ("add", "top", 0), MIRROR, ("cut", "bottom"), ("add", "right", 10 ** 99)]
        self.assertEqual(run(Picture(UNLIKE), steps).rows, ((0, 0, 10 ** 99), (2, 5, 10 ** 99)))
        self.assertEqual(run(Picture(UNLIKE), tuple(steps)), run(Picture(UNLIKE), steps))
        self.assertEqual(run(steps=steps, picture=Picture(UNLIKE)), run(Picture(UNLIKE), steps))

    def test_no_step(self):
        for steps in ([], ()):
            result = run(Picture(UNLIKE), steps)
            self.assertIs(type(result), Picture)
            self.assertEqual(result.rows, UNLIKE)

    def test_two_hundred_steps(self):
        steps = [("add", "top", colour) for colour in range(200)]
        result = run(Picture([[5]]), steps)
        self.assertEqual(result.rows, tuple((colour,) for colour in reversed(range(200))) + ((5,),))
        self.assert_raises(InvalidSequence, {"index": None}, run, Picture([[5]]), steps + [TURN])

    def test_last_line(self):
        for side in SIDES:
            self.assert_raises(LastLine, {"index": 0}, run, Picture([[5]]), [("cut", side)])
            steps = [TURN, MIRROR, ("cut", side), ("cut", side)]
            self.assert_raises(LastLine, {"index": 2}, run, Picture([[5]]), steps)
        self.assert_raises(LastLine, {"index": 1}, run, Picture(UNLIKE), [("cut", "top"), ("cut", "bottom")])
        self.assert_raises(LastLine, {"index": 2}, run, Picture(UNLIKE), [("cut", "left")] * 5)
        self.assert_raises(LastLine, {"index": 2}, run, Picture(UNLIKE), [TURN, ("cut", "left"), ("cut", "right")])
        self.assert_raises(LastLine, {"index": 199}, run, Picture([[5]]), [TURN] * 199 + [("cut", "top")])

    def test_what_was_added_may_be_cut(self):
        steps = [("add", "top", 7), ("cut", "bottom")]
        self.assertEqual(run(Picture([[1, 2]]), steps).rows, ((7, 7),))
        self.assert_raises(LastLine, {"index": 2}, run, Picture([[1, 2]]), steps + [("cut", "top")])

    def test_refused(self):
        for value in NO_PICTURES:
            self.assert_raises(InvalidPicture, {"value": value}, run, value, [TURN])
        for value in NO_SEQUENCES:
            self.assert_raises(InvalidSequence, {"index": None}, run, Picture(UNLIKE), value)
        for wrong in all_wrong_steps():
            self.assert_raises(InvalidSequence, {"index": 1}, run, Picture(UNLIKE), [TURN, wrong])

    def test_leftmost_is_raised(self):
        self.assert_raises(InvalidPicture, {"value": 5}, run, 5, [None])
        self.assert_raises(InvalidPicture, {"value": 5}, run, steps=None, picture=5)

    def test_a_wrong_step_comes_before_a_failing_one(self):
        self.assert_raises(InvalidSequence, {"index": 1}, run, Picture([[5]]), [("cut", "top"), None])

    def test_arguments_stay(self):
        picture = Picture(UNLIKE)
        steps = [TURN, ("cut", "top"), ("add", "left", 3)]
        run(picture, steps)
        with self.assertRaises(LastLine):
            run(picture, [("cut", "top")] * 2)
        self.assertEqual(picture.rows, UNLIKE)
        self.assertEqual(steps, [TURN, ("cut", "top"), ("add", "left", 3)])

    def test_result_is_independent_of_the_list(self):
        steps = [("add", "left", 3)]
        result = run(Picture([[1]]), steps)
        steps[0] = ("add", "left", 4)
        self.assertEqual(result.rows, ((3, 1),))


class TestPicturesAlong(RaisingCase):

    def test_is_a_generator_function(self):
        self.assertTrue(inspect.isgeneratorfunction(pictures_along))

    def test_items(self):
        steps = [("add", "top", 7), TURN, ("cut", "left"), MIRROR]
        items = list(pictures_along(Picture([[1, 2]]), steps))
        self.assertEqual([item.rows for item in items], [
            ((1, 2),), ((7, 7), (1, 2)), ((1, 7), (2, 7)), ((7,), (7,)), ((7,), (7,)),
        ])
        for place, item in enumerate(items):
            self.assertIs(type(item), Picture)
            self.assertEqual(item, run(Picture([[1, 2]]), steps[:place]))
        self.assertEqual(list(pictures_along(steps=tuple(steps), picture=Picture([[1, 2]]))), items)

    def test_only_the_picture(self):
        for steps in ([], ()):
            self.assertEqual(list(pictures_along(Picture(UNLIKE), steps)), [Picture(UNLIKE)])

    def test_two_hundred_steps(self):
        self.assertEqual(len(list(pictures_along(Picture(UNLIKE), [TURN] * 200))), 201)

    def test_argument_errors_come_before_the_first_item(self):
        for value in NO_PICTURES:
            items = pictures_along(value, [TURN])
            self.assert_raises(InvalidPicture, {"value": value}, next, items)
        for value in NO_SEQUENCES:
            items = pictures_along(Picture(UNLIKE), value)
            self.assert_raises(InvalidSequence, {"index": None}, next, items)
        for wrong in all_wrong_steps():
            items = pictures_along(Picture(UNLIKE), [TURN, wrong])
            self.assert_raises(InvalidSequence, {"index": 1}, next, items)

    def test_leftmost_is_raised(self):
        self.assert_raises(InvalidPicture, {"value": 5}, next, pictures_along(5, None))
        self.assert_raises(InvalidPicture, {"value": 5}, next, pictures_along(steps=None, picture=5))

    def test_a_wrong_step_comes_before_a_failing_one(self):
        items = pictures_along(Picture([[5]]), [("cut", "top"), None])
        self.assert_raises(InvalidSequence, {"index": 1}, next, items)

    def test_last_line_comes_for_the_first_missing_item(self):
        items = pictures_along(Picture(UNLIKE), [TURN, ("cut", "left"), ("cut", "right"), TURN])
        self.assertEqual([next(items).rows for _ in range(3)], [UNLIKE, ((4, 1), (5, 2), (6, 3)), ((1,), (2,), (3,))])
        self.assert_raises(LastLine, {"index": 2}, next, items)
        self.assertEqual(list(items), [])

    def test_last_line_at_the_first_step(self):
        items = pictures_along(Picture([[5]]), [("cut", "top")])
        self.assertEqual(next(items), Picture([[5]]))
        self.assert_raises(LastLine, {"index": 0}, next, items)

    def test_changes_before_the_first_item_count(self):
        steps = [None]
        items = pictures_along(Picture([[1, 2]]), steps)
        steps[:] = [MIRROR, TURN]
        self.assertEqual([item.rows for item in items], [((1, 2),), ((2, 1),), ((2,), (1,))])
        steps = [TURN]
        items = pictures_along(Picture([[1, 2]]), steps)
        steps.append("no step")
        self.assert_raises(InvalidSequence, {"index": 1}, next, items)

    def test_changes_after_the_first_item_do_not_count(self):
        steps = [MIRROR, TURN]
        items = pictures_along(Picture([[1, 2]]), steps)
        self.assertEqual(next(items).rows, ((1, 2),))
        steps[1] = ("cut", "top")
        steps.append("no step")
        self.assertEqual(next(items).rows, ((2, 1),))
        steps.clear()
        self.assertEqual([item.rows for item in items], [((2,), (1,))])

    def test_arguments_stay(self):
        picture = Picture(UNLIKE)
        steps = [TURN, ("cut", "top")]
        list(pictures_along(picture, steps))
        self.assertEqual(picture.rows, UNLIKE)
        self.assertEqual(steps, [TURN, ("cut", "top")])
