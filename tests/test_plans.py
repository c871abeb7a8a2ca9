"""[3] (g), (i) and the section pictureframes/plans.py."""

import functools
import itertools
import random

from pictureframes.errors import InvalidPicture, LimitExceeded
from pictureframes.pictures import Picture
from pictureframes.plans import distance, plan
from pictureframes.running import check_steps, run
from samples import MIRROR, NO_PICTURES, TURN, RaisingCase, all_steps, fresh_picture, some_steps

# How many rows and columns the pictures of the search have at most. Some shortest sequence needs no larger ones.
MOST = 3


@functools.cache
def small_pictures(colours):
    """Return all pictures with at most three rows and columns and these colours."""
    sizes = itertools.product(range(1, MOST + 1), repeat=2)
    return [
        Picture([cells[row * width:(row + 1) * width] for row in range(height)])
        for height, width in sizes for cells in itertools.product(colours, repeat=height * width)
    ]


@functools.cache
def rows_after_each_step(rows, colours):
    """Return the rows of the small pictures that are one step away."""
    picture = Picture(rows)
    found = []
    for step in all_steps(colours):
        last = len(rows) if step[-1] in ("top", "bottom") else len(rows[0])
        if step[0] == "cut" and last == 1:
            continue
        result = run(picture, [step])
        if max(result.height, result.width) <= MOST:
            found.append(result.rows)
    return found


def searched_distances(start, colours):
    """Return a dict from the rows of all small pictures that can be reached to the number of steps."""
    found = {start.rows: 0}
    reached = [start.rows]
    while reached:
        further = []
        for rows in reached:
            for after in rows_after_each_step(rows, colours):
                if after not in found:
                    found[after] = found[rows] + 1
                    further.append(after)
        reached = further
    return found


class PlanCase(RaisingCase):

    def check(self, start, goal, length):
        """Demand a distance, and a plan of so many steps that leads to the goal."""
        result = distance(start, goal)
        self.assertEqual(result, length, (start, goal))
        steps = plan(start, goal)
        if length is None:
            self.assertIsNone(result)
            self.assertIsNone(steps)
            return
        self.assertIs(type(result), int)
        self.assertIs(type(steps), list)
        self.assertEqual(len(steps), length)
        check_steps(steps)
        self.assertEqual(run(start, steps), goal)


class TestExamples(PlanCase):

    def test_distance(self):
        self.assertEqual(repr(distance(Picture([[1]]), Picture([[2]]))), "2")

    def test_no_distance(self):
        self.assertEqual(repr(distance(Picture([[1]]), Picture([[2, 3], [3, 2]]))), "None")

    def test_plan(self):
        self.assertEqual(repr(plan(Picture([[1, 2]]), Picture([[2, 1]]))), "[('mirror',)]")


class TestSearch(PlanCase):

    def test_from_all_smallest_pictures(self):
        goals = small_pictures((1, 2))
        for start in goals:
            if start.height * start.width <= 2:
                found = searched_distances(start, (1, 2))
                for goal in goals:
                    self.check(start, goal, found.get(goal.rows))

    def test_from_larger_pictures(self):
        chosen = random.Random(1)
        pictures = small_pictures((1, 2))
        for start in chosen.sample(pictures, 40):
            found = searched_distances(start, (1, 2))
            for goal in chosen.sample(pictures, 60):
                self.check(start, goal, found.get(goal.rows))

    def test_goals_without_peelable_lines(self):
        found = searched_distances(Picture([[1, 2], [2, 1]]), (1, 2))
        kept = Picture([[1, 2, 1], [2, 1, 2], [1, 2, 1]])
        self.assertNotIn(kept.rows, found)
        self.check(Picture([[1, 2], [2, 1]]), kept, None)
        self.check(kept, Picture([[1, 2], [2, 1]]), 2)
        self.check(Picture([[2, 1], [1, 2]]), Picture([[1, 2], [2, 1]]), 1)

    def test_after_steps(self):
        chosen = random.Random(2)
        for many in (1, 2, 3, 5, 8):
            for _ in range(40):
                start = fresh_picture(4, 5)
                steps = some_steps(chosen, many, (1, 2))
                goal = run(start, steps)
                result = plan(start, goal)
                self.assertLessEqual(len(result), many)
                self.check(start, goal, len(result))


class TestDistances(PlanCase):

    def test_equal_pictures(self):
        for picture in (Picture([[1]]), Picture([[1, 2], [2, 1]]), fresh_picture(10, 10), Picture.filled(1, 100, 7)):
            self.check(picture, Picture(picture.rows), 0)
            self.assertEqual(plan(picture, picture), [])

    def test_one_step(self):
        start = fresh_picture(3, 4)
        for step in all_steps((1, 2)):
            goal = run(start, [step])
            self.check(start, goal, 1)
            self.assertEqual(plan(start, goal), [step])

    def test_symmetries(self):
        start = fresh_picture(3, 4)
        for steps, length in (([TURN] * 2, 2), ([TURN] * 3, 3), ([MIRROR, TURN], 2), ([TURN, MIRROR], 2)):
            self.check(start, run(start, steps), length)
        self.check(start, run(start, [TURN, TURN, MIRROR]), 3)

    def test_goals_of_one_colour(self):
        # A line is added along the shorter side, and those of the start are cut off.
        self.check(Picture([[1, 2, 3]]), Picture([[7, 7, 7]]), 2)
        self.check(Picture([[1], [2], [3]]), Picture([[7], [7], [7]]), 2)
        self.check(Picture([[1], [2], [3]]), Picture([[7, 7, 7]]), 3)
        self.check(Picture([[1, 2, 3]]), Picture([[7], [7], [7]]), 3)
        self.check(Picture([[1, 2], [3, 4]]), Picture([[7]]), 4)
        self.check(Picture([[1]]), Picture([[7, 7], [7, 7]]), 4)
        self.check(Picture([[1, 2], [3, 4]]), Picture([[7, 7], [7, 7]]), 4)
        self.check(Picture.numbered(1, 10), Picture.filled(10, 1, 77), 3)
        self.check(Picture.numbered(10, 1), Picture.filled(2, 10, 77), 4)
        self.check(Picture.numbered(2, 50), Picture.filled(50, 2, 777), 5)

    def test_lines_that_nothing_of_the_start_is_under(self):
        # The longest line with which the goal may begin has two cells.
        self.check(Picture([[1, 2]]), Picture([[7, 8], [7, 8], [7, 9]]), 5)
        self.check(Picture([[1], [2]]), Picture([[7, 8], [7, 8], [7, 9]]), 4)
        self.check(Picture([[1]]), Picture([[7, 8], [7, 8], [7, 9]]), 5)
        self.check(Picture([[1, 2, 3], [4, 5, 6]]), Picture([[7, 7], [8, 8]]), 5)

    def test_kept_cells_or_a_new_line(self):
        # One cell of the start could stay, but it is shorter to begin anew.
        self.check(Picture([[1, 2, 3, 4, 5, 6]]), Picture([[3, 3, 3, 3, 3, 3]]), 2)
        self.check(Picture([[7, 1], [1, 7]]), Picture([[7, 1, 1]]), 2)

    def test_new_colours_that_cannot_be_peeled(self):
        for start in (Picture([[1]]), Picture([[2, 3]]), fresh_picture(10, 10)):
            self.check(start, Picture([[2, 3], [3, 2]]), None)
            self.check(start, Picture([[7, 7, 7, 7], [7, 2, 3, 7], [7, 3, 2, 7], [7, 7, 7, 7]]), None)
        start = Picture([[2, 3, 5], [3, 2, 6]])
        self.check(start, Picture([[2, 3], [3, 2]]), 1)
        self.check(start, Picture([[7, 7, 7, 7], [7, 2, 3, 7], [7, 3, 2, 7], [7, 7, 7, 7]]), 5)
        self.check(start, Picture([[2, 3], [3, 9]]), None)

    def test_both_ways(self):
        self.check(fresh_picture(2, 2), Picture([[1]]), 4)
        self.check(Picture([[1]]), fresh_picture(2, 2), None)

    def test_largest_pictures(self):
        for height, width in ((10, 10), (1, 100), (50, 2)):
            start = fresh_picture(height, width)
            self.check(start, run(start, [TURN]), 1)
            self.check(start, run(start, [("cut", "right"), ("add", "left", 7)]), 2)
            self.check(start, Picture.filled(height, width, 7), min(height, width) * 2)
            self.check(start, Picture.filled(width, height, 7), min(height, width) * 2 + (height != width))
        # Three steps turn it back.
        start = fresh_picture(10, 10)
        self.check(run(start, [TURN]), run(start, [("cut", "left")]), 4)

    def test_most_steps(self):
        # All columns are cut off and all are added; the row stays.
        self.check(fresh_picture(1, 100), Picture.numbered(1, 100), 200)
        self.check(fresh_picture(1, 100), Picture.numbered(100, 1), 200)

    def test_limit(self):
        small = Picture([[1]])
        for height, width in ((1, 101), (101, 1), (2, 51), (11, 10), (1000, 1000)):
            large = Picture.filled(height, width, 1)
            count = {"count": height * width}
            for call in (distance, plan):
                self.assert_raises(LimitExceeded, count, call, large, small)
                self.assert_raises(LimitExceeded, count, call, small, large)
                self.assert_raises(LimitExceeded, count, call, large, Picture.filled(150, 1, 1))
                self.assert_raises(LimitExceeded, count, call, large, large)

    def test_refused(self):
        small = Picture([[1]])
        large = Picture.filled(11, 11, 1)
        for call in (distance, plan):
            for value in NO_PICTURES:
                self.assert_raises(InvalidPicture, {"value": value}, call, value, small)
                self.assert_raises(InvalidPicture, {"value": value}, call, value, None)
                self.assert_raises(InvalidPicture, {"value": value}, call, small, value)
                self.assert_raises(InvalidPicture, {"value": value}, call, large, value)

    def test_arguments_and_results(self):
        start, goal = Picture([[1]]), Picture([[7, 1]])
        self.assertEqual(distance(goal=goal, start=start), 1)
        steps = plan(goal=goal, start=start)
        self.assertEqual(steps, [("add", "left", 7)])
        steps.clear()
        self.assertEqual(plan(start, goal), [("add", "left", 7)])

    def test_renamed_colours(self):
        chosen = random.Random(3)
        names = {1: 10 ** 99, 2: 1, 3: 0}
        for _ in range(60):
            start, goal = [
                Picture([[chosen.choice((1, 2, 3)) for _ in range(width)] for _ in range(height)])
                for height, width in (chosen.choice(((1, 2), (2, 2), (1, 3), (3, 2))) for _ in range(2))
            ]
            renamed = [
                Picture([[names[colour] for colour in row] for row in picture.rows]) for picture in (start, goal)
            ]
            self.assertEqual(distance(*renamed), distance(start, goal))
