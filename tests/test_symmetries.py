"""[6], symmetries, and the section pictureframes/symmetries.py."""

from pictureframes.errors import InvalidPicture, InvalidSide, InvalidSymmetry
from pictureframes.pictures import Picture
from pictureframes.running import run
from pictureframes.symmetries import Symmetry
from samples import NO_COUNTS, NO_PICTURES, NO_SIDES, SIDES, UNLIKE, RaisingCase

ORDER = [(0, False), (1, False), (2, False), (3, False), (0, True), (1, True), (2, True), (3, True)]
# What a symmetry with these turns, and with or without a mirroring before them, makes of UNLIKE.
RESULTS = {
    (0, False): ((1, 2, 3), (4, 5, 6)),
    (1, False): ((4, 1), (5, 2), (6, 3)),
    (2, False): ((6, 5, 4), (3, 2, 1)),
    (3, False): ((3, 6), (2, 5), (1, 4)),
    (0, True): ((3, 2, 1), (6, 5, 4)),
    (1, True): ((6, 3), (5, 2), (4, 1)),
    (2, True): ((4, 5, 6), (1, 2, 3)),
    (3, True): ((1, 4), (2, 5), (3, 6)),
}
LEAST_STEPS = {
    (0, False): 0, (1, False): 1, (2, False): 2, (3, False): 3,
    (0, True): 1, (1, True): 2, (2, True): 3, (3, True): 2,
}


def parts(symmetry):
    return (symmetry.turns, symmetry.mirrors)


class TestExamples(RaisingCase):

    def test_product(self):
        product = Symmetry(1) * Symmetry(0, True)
        self.assertEqual(repr((product.turns, product.mirrors)), "(3, True)")

    def test_side(self):
        self.assertEqual(repr(Symmetry(1).side("top")), "'right'")

    def test_steps(self):
        self.assertEqual(repr(Symmetry(1, True).steps()), "[('mirror',), ('turn',)]")


class TestMaking(RaisingCase):

    def test_parts(self):
        for turns, mirrors in ORDER:
            for symmetry in (Symmetry(turns, mirrors), Symmetry(mirrors=mirrors, turns=turns)):
                self.assertEqual(parts(symmetry), (turns, mirrors))
                self.assertIs(type(symmetry.turns), int)
                self.assertIs(type(symmetry.mirrors), bool)

    def test_defaults(self):
        self.assertEqual(parts(Symmetry()), (0, False))
        self.assertEqual(parts(Symmetry(2)), (2, False))
        self.assertEqual(parts(Symmetry(mirrors=True)), (0, True))

    def test_turns_refused(self):
        for value in NO_COUNTS + (4, 5, 10 ** 99, -3):
            self.assert_raises(InvalidSymmetry, {"value": value}, Symmetry, value)
            self.assert_raises(InvalidSymmetry, {"value": value}, Symmetry, value, True)
            self.assert_raises(InvalidSymmetry, {"value": value}, Symmetry, turns=value)

    def test_mirrors_refused(self):
        for value in (0, 1, -1, None, "", "True", b"", (), (True,), [], {}, object(), bool):
            self.assert_raises(InvalidSymmetry, {"value": value}, Symmetry, 1, value)
            self.assert_raises(InvalidSymmetry, {"value": value}, Symmetry, mirrors=value)

    def test_leftmost_is_raised(self):
        self.assert_raises(InvalidSymmetry, {"value": 4}, Symmetry, 4, 1)
        self.assert_raises(InvalidSymmetry, {"value": True}, Symmetry, mirrors=None, turns=True)

    def test_every(self):
        every = Symmetry.every()
        self.assertIs(type(every), list)
        self.assertEqual([parts(symmetry) for symmetry in every], ORDER)
        for symmetry in every:
            self.assertIs(type(symmetry), Symmetry)

    def test_every_is_new(self):
        Symmetry.every().clear()
        self.assertEqual(len(Symmetry.every()), 8)


class TestActing(RaisingCase):

    def test_apply(self):
        for turns, mirrors in ORDER:
            result = Symmetry(turns, mirrors).apply(Picture(UNLIKE))
            self.assertIs(type(result), Picture)
            self.assertEqual(result.rows, RESULTS[turns, mirrors])
        self.assertEqual(Symmetry(1).apply(picture=Picture([[1, 2]])).rows, ((1,), (2,)))

    def test_apply_mirrors_before_it_turns(self):
        picture = Picture(UNLIKE)
        self.assertEqual(Symmetry(1, True).apply(picture), picture.mirrored().turned())
        self.assertNotEqual(Symmetry(1, True).apply(picture), picture.turned().mirrored())

    def test_apply_leaves_the_picture(self):
        picture = Picture(UNLIKE)
        for symmetry in Symmetry.every():
            symmetry.apply(picture)
        self.assertEqual(picture.rows, UNLIKE)

    def test_apply_refuses(self):
        for symmetry in Symmetry.every():
            for value in NO_PICTURES + (Symmetry(),):
                self.assert_raises(InvalidPicture, {"value": value}, symmetry.apply, value)

    def test_products_of_all_pairs(self):
        picture = Picture(UNLIKE)
        for one in Symmetry.every():
            for other in Symmetry.every():
                product = one * other
                self.assertIs(type(product), Symmetry)
                self.assertEqual(product.apply(picture), other.apply(one.apply(picture)))
                self.assertIn(parts(product), ORDER)
                self.assertIs(type(product.mirrors), bool)

    def test_product_leaves_its_operands(self):
        one, other = Symmetry(1), Symmetry(2, True)
        one * other
        self.assertEqual((parts(one), parts(other)), ((1, False), (2, True)))

    def test_inverses(self):
        for symmetry in Symmetry.every():
            inverse = symmetry.inverse()
            self.assertIs(type(inverse), Symmetry)
            self.assertEqual(symmetry * inverse, Symmetry())
            self.assertEqual(inverse * symmetry, Symmetry())
            self.assertEqual(inverse.apply(symmetry.apply(Picture(UNLIKE))).rows, UNLIKE)

    def test_sides(self):
        for symmetry in Symmetry.every():
            for side in SIDES:
                marked = symmetry.apply(Picture([[0, 0], [0, 0]]).added(side, 1))
                self.assertEqual(set(marked.line(symmetry.side(side))), {1})
                self.assertIn(symmetry.side(side=side), SIDES)

    def test_sides_written_out(self):
        self.assertEqual([Symmetry().side(side) for side in SIDES], list(SIDES))
        self.assertEqual([Symmetry(1).side(side) for side in SIDES], ["right", "bottom", "left", "top"])
        self.assertEqual([Symmetry(0, True).side(side) for side in SIDES], ["top", "left", "bottom", "right"])
        self.assertEqual([Symmetry(1, True).side(side) for side in SIDES], ["right", "top", "left", "bottom"])

    def test_side_refuses(self):
        for symmetry in Symmetry.every():
            for value in NO_SIDES:
                self.assert_raises(InvalidSide, {"value": value}, symmetry.side, value)

    def test_steps_act_like_the_symmetry(self):
        for symmetry in Symmetry.every():
            steps = symmetry.steps()
            self.assertIs(type(steps), list)
            self.assertEqual([step for step in steps if step not in (("turn",), ("mirror",))], [])
            self.assertEqual(run(Picture(UNLIKE), steps), symmetry.apply(Picture(UNLIKE)))

    def test_steps_are_as_few_as_possible(self):
        sequences = [[]]
        least = {}
        for _ in range(4):
            for steps in sequences:
                least.setdefault(run(Picture(UNLIKE), steps).rows, len(steps))
            sequences = [steps + [step] for steps in sequences for step in (("turn",), ("mirror",))]
        for symmetry in Symmetry.every():
            self.assertEqual(len(symmetry.steps()), least[symmetry.apply(Picture(UNLIKE)).rows])
            self.assertEqual(len(symmetry.steps()), LEAST_STEPS[parts(symmetry)])

    def test_steps_are_new(self):
        for symmetry in Symmetry.every():
            steps = symmetry.steps()
            symmetry.steps().append(("turn",))
            self.assertEqual(symmetry.steps(), steps)

    def test_equality(self):
        for place, one in enumerate(Symmetry.every()):
            for other_place, other in enumerate(Symmetry.every()):
                self.assertIs(one == other, place == other_place)
                self.assertIs(one != other, place != other_place)
            for value in (None, True, one.turns, parts(one), repr(one), one.steps(), Picture(UNLIKE), Symmetry):
                self.assertIs(one == value, False)
                self.assertIs(value == one, False)
                self.assertIs(one != value, True)

    def test_repr(self):
        self.assertEqual(repr(Symmetry()), "Symmetry(0, False)")
        self.assertEqual(repr(Symmetry(3, True)), "Symmetry(3, True)")
