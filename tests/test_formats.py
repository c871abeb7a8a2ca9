"""[14], formats, [3] (i) and the section pictureframes/formats.py."""

import itertools
import random
import re

from pictureframes.effects import Effect
from pictureframes.errors import InvalidEffect, InvalidPicture, ParseError
from pictureframes.formats import (
    format_effect, format_picture, format_steps, parse_effect, parse_picture, parse_steps,
)
from pictureframes.frames import Frame
from pictureframes.pictures import Picture
from pictureframes.symmetries import Symmetry
from samples import (
    MIRROR, NO_EFFECTS, NO_PICTURES, SIDES, TURN, RaisingCase, all_lists, all_steps, some_lines, some_steps,
)

LONG = 10 ** 99 + 7
NO_TEXTS = (
    None, True, 0, 1, b"", b"1", [], ["1"], ("1",), {}, {"1": 1}, Picture([[1]]), Effect.identity(), object(), str,
)
COLOUR = r"(?:0|[1-9][0-9]*)"
ROW = COLOUR + r"(?: " + COLOUR + r")*"
PICTURE = re.compile(ROW + r"(?: / " + ROW + r")*")
STEP = r"(?:turn|mirror|cut (?:top|right|bottom|left)|add (?:top|right|bottom|left) " + COLOUR + r")"
STEPS = re.compile(r"-|" + STEP + r"(?:; " + STEP + r")*")
LINE = r"(?:top|right|bottom|left) " + COLOUR
EFFECT = re.compile(
    r"[0-3]m? \| " + COLOUR + r"(?: " + COLOUR + r"){3} \| (?:-|" + LINE + r"(?:; " + LINE + r")*)"
)
# What is inserted into texts, or stands in the place of one of their signs.
SIGNS = "0123456789 -+/;|.,_mtx\nA"


def neighbouring_texts(text):
    """Return texts with one sign more, one less, or another one."""
    found = [text, " " + text, text + " ", text.upper(), text + text, text.replace(" ", "  ")]
    for place in range(len(text) + 1):
        found.extend([text[:place] + sign + text[place:] for sign in SIGNS])
    for place in range(len(text)):
        found.append(text[:place] + text[place + 1:])
        found.extend([text[:place] + sign + text[place + 1:] for sign in SIGNS])
    return found


class FormatCase(RaisingCase):

    def check_neighbours(self, texts, pattern, parse, write, is_valid):
        """Demand that exactly the texts of the pattern that are valid are parsed, and that these are written so."""
        parsed = refused = 0
        for text in {other for text in texts for other in neighbouring_texts(text)}:
            if pattern.fullmatch(text) and is_valid(text):
                self.assertEqual(write(parse(text)), text)
                parsed += 1
            else:
                self.assert_raises(ParseError, {"text": text}, parse, text)
                refused += 1
        self.assertGreater(parsed, 20)
        self.assertGreater(refused, 100)

    def assert_all_refused(self, parse, texts):
        for text in (*texts, *NO_TEXTS):
            self.assert_raises(ParseError, {"text": text}, parse, text)
            self.assert_raises(ParseError, {"text": text}, parse, text=text)


class TestExamples(RaisingCase):

    def test_format_picture(self):
        self.assertEqual(repr(format_picture(Picture([[1, 2], [3, 4]]))), "'1 2 / 3 4'")

    def test_format_steps(self):
        self.assertEqual(repr(format_steps([("turn",), ("add", "left", 8)])), "'turn; add left 8'")

    def test_format_effect(self):
        effect = Effect.of([("cut", "top"), ("add", "top", 7), ("turn",)])
        self.assertEqual(repr(format_effect(effect)), "'1 | 1 0 0 0 | right 7'")

    def test_parse_picture(self):
        self.assert_raises(ParseError, {"text": "1 2 / 3"}, parse_picture, "1 2 / 3")


class TestPictures(FormatCase):

    def test_texts(self):
        for rows, text in (
            ([[0]], "0"), ([[1, 20, 300]], "1 20 300"), ([[1], [20], [300]], "1 / 20 / 300"),
            ([[1, 2], [3, 4], [5, 6]], "1 2 / 3 4 / 5 6"), ([[LONG, 0]], str(LONG) + " 0"),
            ([[10 ** 99]], "1" + "0" * 99),
        ):
            self.assertEqual(format_picture(Picture(rows)), text)
            self.assertEqual(format_picture(picture=Picture(rows)), text)
            self.assertEqual(parse_picture(text), Picture(rows))
            self.assertEqual(parse_picture(text=text), Picture(rows))

    def test_back(self):
        chosen = random.Random(1)
        for height, width in ((1, 1), (1, 30), (30, 1), (4, 5), (40, 40)):
            for most in (2, 11, 1000, 10 ** 100):
                rows = [[chosen.randrange(most) for _ in range(width)] for _ in range(height)]
                back = parse_picture(format_picture(Picture(rows)))
                self.assertIs(type(back), Picture)
                self.assertEqual(back, Picture(rows))

    def test_refused_texts(self):
        self.assert_all_refused(parse_picture, (
            "", " ", "-", "a", "/", " / ", "1 /", "/ 1", "1 / ", " / 1", "1/2", "1 /2", "1/ 2", "1 / / 2", "1 //  2",
            "1 2 / 3", "1 / 2 3", "1 2 / 3 4 / 5", "1  2", " 1", "1 ", "1 2 / 3  4", "1  / 2", "1 /  2",
            "01", "00", "1 02", "+1", "-1", "-0", "1.0", "1,2", "1_0", "0x1", "1e3", "1\n", "\n1", "1\n2", "1; 2",
            "1 | 2", "None", "True", "[[1]]", "((1,),)", "1\t2",
        ))

    def test_neighbouring_texts(self):
        texts = ("0", "7", "10", "1 2", "1 / 2", "1 2 / 30 4", "1 / 0 / 5", str(LONG))

        def is_valid(text):
            return len({len(row.split(" ")) for row in text.split(" / ")}) == 1

        self.check_neighbours(texts, PICTURE, parse_picture, format_picture, is_valid)

    def test_wrong_kinds(self):
        for value in NO_PICTURES:
            self.assert_raises(InvalidPicture, {"value": value}, format_picture, value)


class TestSteps(FormatCase):

    def test_texts(self):
        for steps, text in (
            ([], "-"), ([TURN], "turn"), ([MIRROR], "mirror"), ([TURN, MIRROR, TURN], "turn; mirror; turn"),
            ([("add", "left", LONG)], "add left " + str(LONG)),
            ([("add", "top", 0), ("cut", "top")], "add top 0; cut top"),
            *[([("cut", side), ("add", side, 10)], f"cut {side}; add {side} 10") for side in SIDES],
        ):
            self.assertEqual(format_steps(steps), text)
            self.assertEqual(format_steps(steps=tuple(steps)), text)
            self.assertEqual(parse_steps(text), steps)
            self.assertEqual(parse_steps(text=text), steps)

    def test_back(self):
        chosen = random.Random(2)
        for steps in all_lists(all_steps((0, 12)), 2):
            self.check_back(steps)
        for many in (3, 10, 199, 200):
            self.check_back(some_steps(chosen, many, (0, 5, 10 ** 30)))
        self.assertEqual(parse_steps(format_steps((TURN, MIRROR))), [TURN, MIRROR])

    def check_back(self, steps):
        back = parse_steps(format_steps(steps))
        self.assertIs(type(back), list)
        self.assertEqual(back, steps)
        self.assertEqual([type(step) for step in back], [tuple] * len(steps))

    def test_most_steps(self):
        for step, word in ((TURN, "turn"), (("cut", "top"), "cut top"), (("add", "left", 7), "add left 7")):
            text = "; ".join([word] * 200)
            self.assertEqual(format_steps([step] * 200), text)
            self.assertEqual(parse_steps(text), [step] * 200)
            for many in (201, 202, 400):
                more = "; ".join([word] * many)
                self.assert_raises(ParseError, {"text": more}, parse_steps, more)

    def test_refused_texts(self):
        self.assert_all_refused(parse_steps, (
            "", " ", "- ", " -", "--", "-; -", "-; turn", "turn; -", "turn;", ";turn", "turn; ", "; turn", ";", "; ",
            "turn;mirror", "turn ;mirror", "turn ; mirror", "turn;  mirror", "turn, mirror", "turn mirror",
            "turn / turn", "turn; ; turn", "turn;; turn", " turn", "turn ", "Turn", "TURN", "turns", "tur", "turn 1",
            "turn top",
            "mirror left", "cut", "cut ", "cut up", "cut Top", "cut  top", "cut top ", "cut top 1", "cut top top",
            "cuttop", "add", "add top", "add top ", "add 1", "add 1 top", "add up 1", "add top 01", "add top -1",
            "add top +1",
            "add top  1", "add  top 1", "add top 1 ", "add top 1 2", "add top 1.0", "add top x", "top 1", "top", "1",
            "turn\n", "turn;\nturn", "turn; add top 1; cut", "[('turn',)]", "('turn',)", "None", "cut top; cut",
        ))

    def test_neighbouring_texts(self):
        texts = ("-", "turn", "turn; mirror", "cut top; add left 8", "add right 10; add bottom 0; turn")
        self.check_neighbours(texts, STEPS, parse_steps, format_steps, lambda text: True)

    def test_returned_lists_are_new(self):
        for text in ("-", "turn; cut top"):
            steps = parse_steps(text)
            steps.append(MIRROR)
            self.assertEqual(format_steps(parse_steps(text)), text)

    def test_wrong_kinds(self):
        self.assert_refuses_steps(format_steps)


class TestEffects(FormatCase):

    def test_texts(self):
        for effect, text in (
            (Effect.identity(), "0 | 0 0 0 0 | -"),
            (Effect(Symmetry(3, True), (1, 20, 300, LONG), Frame([])), "3m | 1 20 300 " + str(LONG) + " | -"),
            (Effect(Symmetry(2), (0, 0, 0, 0), Frame([("left", 0)])), "2 | 0 0 0 0 | left 0"),
            (Effect(Symmetry(0, True), (0, 1, 0, 0), Frame([("left", 7), ("top", 7), ("right", LONG)])),
             "0m | 0 1 0 0 | top 7; right " + str(LONG) + "; left 7"),
        ):
            self.assertEqual(format_effect(effect), text)
            self.assertEqual(format_effect(effect=effect), text)
            self.assertEqual(parse_effect(text), effect)
            self.assertEqual(parse_effect(text=text), effect)

    def test_symmetries(self):
        names = ["0", "1", "2", "3", "0m", "1m", "2m", "3m"]
        for symmetry, name in zip(Symmetry.every(), names, strict=True):
            for frame, lines in ((Frame([]), "-"), (Frame([("top", 1), ("left", 2)]), "top 1; left 2")):
                effect = Effect(symmetry, (0, 3, 0, 12), frame)
                self.assertEqual(format_effect(effect), name + " | 0 3 0 12 | " + lines)
                self.assertEqual(parse_effect(name + " | 0 3 0 12 | " + lines), effect)

    def test_back(self):
        chosen = random.Random(3)
        for many in (0, 1, 3, 10, 50, 200):
            for _ in range(20):
                effect = Effect.of(some_steps(chosen, many, (0, 3, 10 ** 20)))
                back = parse_effect(format_effect(effect))
                self.assertIs(type(back), Effect)
                self.assertEqual(back, effect)

    def test_lines_in_any_order(self):
        chosen = random.Random(4)
        others = 0
        for _ in range(40):
            frame = Frame(some_lines(chosen, chosen.randrange(1, 7), (1, 2)))
            effect = Effect(Symmetry(1), (0, 1, 0, 2), frame)
            for order in frame.orders():
                text = "1 | 0 1 0 2 | " + "; ".join([f"{side} {colour}" for side, colour in order])
                self.assertEqual(parse_effect(text), effect)
                others += text != format_effect(effect)
        self.assertGreater(others, 50)
        self.assertEqual(format_effect(parse_effect("0 | 0 0 0 0 | left 7; top 7")), "0 | 0 0 0 0 | top 7; left 7")
        self.assertEqual(format_effect(parse_effect("0 | 0 0 0 0 | left 8; top 7")), "0 | 0 0 0 0 | left 8; top 7")

    def test_more_lines_than_a_list_may_have(self):
        frame = Frame.around(Picture([list(range(301))]), 0, 0, 1, 1)
        effect = Effect(Symmetry(), (0, 0, 0, 0), frame)
        self.assertEqual(len(frame), 300)
        self.assertEqual(parse_effect(format_effect(effect)), effect)

    def test_refused_texts(self):
        self.assert_all_refused(parse_effect, (
            "", " ", "-", "0", "0 | 0 0 0 0", "0 | 0 0 0 0 |", "0 | 0 0 0 0 | ", "| 0 0 0 0 | -", " | 0 0 0 0 | -",
            "0 | | -", "0 |  | -", "0 | - | -", "0 | 0 0 0 0 | - | -", "0 | 0 0 0 0 | - ", " 0 | 0 0 0 0 | -",
            "0 |0 0 0 0 | -", "0|0 0 0 0|-", "0 | 0 0 0 0| -", "0  | 0 0 0 0 | -", "0 |  0 0 0 0 | -",
            "0 | 0 0 0 0 |  -",
            "4 | 0 0 0 0 | -", "00 | 0 0 0 0 | -", "01 | 0 0 0 0 | -", "-1 | 0 0 0 0 | -", "10 | 0 0 0 0 | -",
            "m | 0 0 0 0 | -", "m0 | 0 0 0 0 | -", "0 m | 0 0 0 0 | -", "0M | 0 0 0 0 | -", "0mm | 0 0 0 0 | -",
            "4m | 0 0 0 0 | -", "0n | 0 0 0 0 | -", "x | 0 0 0 0 | -",
            "0 | 0 0 0 | -", "0 | 0 0 0 0 0 | -", "0 | 0 0 0  0 | -", "0 | 0, 0, 0, 0 | -", "0 | 0 0 0 00 | -",
            "0 | 0 0 0 -1 | -", "0 | 0 0 0 x | -", "0 | 0; 0; 0; 0 | -", "0 | 0 0 / 0 0 | -",
            "0 | 0 0 0 0 | top", "0 | 0 0 0 0 | top 01", "0 | 0 0 0 0 | top -1", "0 | 0 0 0 0 | up 1",
            "0 | 0 0 0 0 | Top 1", "0 | 0 0 0 0 | 1 top", "0 | 0 0 0 0 | top 1;", "0 | 0 0 0 0 | top 1; ",
            "0 | 0 0 0 0 | ; top 1", "0 | 0 0 0 0 | top 1, left 2", "0 | 0 0 0 0 | top 1;left 2",
            "0 | 0 0 0 0 | top 1 left 2", "0 | 0 0 0 0 | top  1", "0 | 0 0 0 0 | top 1 2", "0 | 0 0 0 0 | add top 1",
            "0 | 0 0 0 0 | top 1; -", "0 | 0 0 0 0 | -; top 1", "0 | 0 0 0 0 | --", "0 | 0 0 0 0 | turn",
            "0 / 0 0 0 0 / -", "0; 0 0 0 0; -", "0 | 0 0 0 0 | -\n", "0\n| 0 0 0 0 | -", "1 | 0 0 0 0 | top 1 | left 2",
        ))

    def test_neighbouring_texts(self):
        texts = ("0 | 0 0 0 0 | -", "1m | 10 2 0 0 | right 7", "3 | 0 0 12 5 | top 1; left 20")

        def is_valid(text):
            return format_effect(parse_effect(text)) == text

        self.check_neighbours(texts, EFFECT, parse_effect, format_effect, is_valid)

    def test_wrong_kinds(self):
        for value in NO_EFFECTS:
            self.assert_raises(InvalidEffect, {"value": value}, format_effect, value)


class TestRenaming(FormatCase):

    def test_renamed_colours(self):
        for one, other in itertools.permutations((1, 20, 300), 2):
            for write, text in ((format_picture, "{0} {1} / {1} {0}"), (format_steps, "add top {0}; add left {1}")):
                value = Picture([[one, other], [other, one]])
                if write == format_steps:
                    value = [("add", "top", one), ("add", "left", other)]
                self.assertEqual(write(value), text.format(one, other))
