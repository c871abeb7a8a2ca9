"""[14], [13], [2] for objects that change, and the section pictureframes/console.py."""

import itertools

from pictureframes.console import Console
from pictureframes.effects import Effect
from pictureframes.errors import (
    InvalidCommand, InvalidName, LastLine, LimitExceeded, NothingToUndo, ParseError, UnknownName,
)
from pictureframes.formats import format_effect, format_picture, format_steps, parse_steps
from pictureframes.pictures import Picture
from pictureframes.plans import distance
from pictureframes.shortening import shortest
from samples import RaisingCase, fresh_picture

NO_TEXTS = (None, True, 0, b"names", [], ["names"], ("names",), {}, Picture([[1]]), Console(), object(), str)
# Words of a line, between single spaces, that are no names.
NO_NAME_WORDS = ("", "A", "a1", "abcdefghi", "a-", "-", "a\n", "1")
NO_PICTURE_TEXTS = ("", " ", "-", "1  2", " 1", "1 ", "1 / ", "1 2 / 3", "01", "1; 2", "turn", "1\n")
NO_STEPS_TEXTS = ("", " ", "- ", "turn ", " turn", "turn;", "turn;  turn", "cut up", "add top", "1 2", "add top 01")
TWENTY = ["".join(pair) for pair in itertools.product("abcd", "vwxyz")]


class ConsoleCase(RaisingCase):

    def setUp(self):
        self.console = Console()

    def run_lines(self, *lines):
        """Return the answers to these lines."""
        answers = [self.console.execute(line) for line in lines]
        self.assertEqual([type(answer) for answer in answers], [str] * len(lines))
        return answers

    def state(self):
        """Return all that can be seen of the console without a change."""
        names = self.console.execute("names")
        kept = [] if names == "-" else names.split(" ")
        return len(self.console), names, [self.console.execute("show " + name) for name in kept]

    def assert_refused(self, error, fields, line):
        """Demand an error, with these texts in its fields, and that nothing changes."""
        before = self.state()
        with self.assertRaises(error) as caught:
            self.console.execute(line)
        self.assertIs(type(caught.exception), error, line)
        for field, expected in fields.items():
            self.assertEqual(getattr(caught.exception, field), expected)
            self.assertIs(type(getattr(caught.exception, field)), type(expected))
        self.assertEqual(self.state(), before)


class TestExamples(ConsoleCase):

    def test_execute(self):
        console = Console()
        answers = [console.execute(line) for line in ("picture a 1 2", "run a mirror; add top 7", "undo a")]
        self.assertEqual(repr(answers), "['ok', '7 7 / 2 1', '1 2']")


class TestCommands(ConsoleCase):

    def test_by_name(self):
        self.assertEqual(self.console.execute(line="names"), "-")

    def test_picture_and_show(self):
        answers = self.run_lines("picture a 1 2 / 3 4", "show a", "picture abcdefgh 0", "show abcdefgh", "show a")
        self.assertEqual(answers, ["ok", "1 2 / 3 4", "ok", "0", "1 2 / 3 4"])
        self.assertEqual(len(self.console), 2)

    def test_run(self):
        self.run_lines("picture a 1 2", "picture b 1 2")
        answers = self.run_lines("run a turn", "run a -", "run a add left 7; cut top; mirror", "show a", "show b")
        self.assertEqual(answers, ["1 / 2", "1 / 2", "2 7", "2 7", "1 2"])

    def test_undo(self):
        self.run_lines("picture a 1 2", "picture b 5", "run a turn", "run b add top 6", "run a -", "run a cut top")
        answers = self.run_lines("undo a", "undo a", "undo a")
        self.assertEqual(answers, ["1 / 2", "1 / 2", "1 2"])
        self.assert_refused(NothingToUndo, {}, "undo a")
        self.assertEqual(self.run_lines("show a", "show b"), ["1 2", "6 / 5"])
        self.assertEqual(self.run_lines("run a mirror", "undo a", "undo b"), ["2 1", "1 2", "5"])
        self.assert_refused(NothingToUndo, {}, "undo b")

    def test_picture_in_place_of_another_one(self):
        self.run_lines("picture a 1 2", "run a turn", "run a mirror")
        self.assertEqual(self.run_lines("picture a 3 4", "show a"), ["ok", "3 4"])
        self.assertEqual(len(self.console), 1)
        self.assert_refused(NothingToUndo, {}, "undo a")
        self.assertEqual(self.run_lines("run a mirror", "undo a"), ["4 3", "3 4"])
        self.run_lines("run a turn", "picture a 3 / 4")
        self.assert_refused(NothingToUndo, {}, "undo a")

    def test_effect(self):
        for text in ("-", "turn", "cut top; add top 7; turn", "mirror; mirror", "add left 5; cut right; cut left"):
            expected = format_effect(Effect.of(parse_steps(text)))
            self.assertEqual(self.run_lines("effect " + text), [expected])
        self.assertEqual(self.run_lines("effect cut top; add top 7; turn"), ["1 | 1 0 0 0 | right 7"])
        self.assertEqual(self.run_lines("effect -"), ["0 | 0 0 0 0 | -"])

    def test_shortest(self):
        for text in ("-", "turn; turn; turn; turn", "add top 7; cut top", "turn; cut left; add left 5; mirror"):
            expected = format_steps(shortest(Effect.of(parse_steps(text))))
            self.assertEqual(self.run_lines("shortest " + text), [expected])
        self.assertEqual(self.run_lines("shortest add top 7; add top 8; cut top"), ["add top 7"])
        self.assertEqual(self.run_lines("shortest mirror; mirror"), ["-"])
        longest = "; ".join(["add left 7"] * 200)
        self.assertEqual(self.run_lines("shortest " + longest), [longest])

    def test_distance(self):
        self.run_lines("picture a 1 2", "picture b 2 1", "picture c 2 3 / 3 2", "picture d 1")
        answers = self.run_lines("distance a b", "distance a a", "distance a c", "distance a d", "distance d a")
        self.assertEqual(answers, ["1", "0", "none", "1", "1"])
        self.assertEqual(answers[4], str(distance(Picture([[1]]), Picture([[1, 2]]))))
        self.assertEqual(self.run_lines("run a mirror", "distance a b", "distance b c"), ["2 1", "0", "none"])

    def test_names(self):
        self.assertEqual(self.run_lines("names"), ["-"])
        self.run_lines("picture b 1")
        self.assertEqual(self.run_lines("names"), ["b"])
        self.run_lines("picture ab 1", "picture a 1", "picture zz 1", "picture b 2")
        self.assertEqual(self.run_lines("names"), ["a ab b zz"])

    def test_twenty_names(self):
        for many, name in enumerate(TWENTY):
            self.assertEqual(len(self.console), many)
            self.run_lines(f"picture {name} {many}")
        self.assertEqual(len(self.console), 20)
        self.assertEqual(self.run_lines("names"), [" ".join(sorted(TWENTY))])
        self.assert_refused(LimitExceeded, {"count": 21}, "picture new 1")
        self.assert_refused(LimitExceeded, {"count": 21}, "picture a 1")
        # Errors of the arguments come first, and a picture in place of another one is no picture more.
        self.assert_refused(InvalidName, {"value": "A"}, "picture A 1")
        self.assert_refused(ParseError, {"text": "x"}, "picture new x")
        for name in TWENTY:
            self.assertEqual(self.run_lines(f"picture {name} 7", "show " + name), ["ok", "7"])
        self.assertEqual(len(self.console), 20)
        self.assert_refused(LimitExceeded, {"count": 21}, "picture new 1")


class TestErrors(ConsoleCase):

    def setUp(self):
        super().setUp()
        self.run_lines("picture a 1 2", "run a mirror", "picture b 5")

    def test_no_texts(self):
        for value in NO_TEXTS:
            before = self.state()
            self.assert_raises(InvalidCommand, {"word": value}, self.console.execute, value)
            self.assert_raises(InvalidCommand, {"word": value}, self.console.execute, line=value)
            self.assertEqual(self.state(), before)

    def test_no_commands(self):
        for line in (
            "", " ", "  ", "-", "x", "x a", "Names", "NAMES", "name", "namess", " names", "show\na", "names\n",
            "pictures a 1", " show a", " picture c 1", "turn", "cut top", "add top 7", "a", "1 2", "copy a", "len",
            "execute names", "parts", "1 names", "show;a", "undo\n", "-names", "quit",
        ):
            self.assert_refused(InvalidCommand, {"word": line}, line)

    def test_too_few_words(self):
        for line in (
            "picture", "picture a", "picture A", "run", "run a", "run A", "show", "undo", "effect", "shortest",
            "distance", "distance a", "distance A",
        ):
            self.assert_refused(InvalidCommand, {"word": line}, line)

    def test_too_many_words(self):
        for line in (
            "show a b", "show a ", "show  a", "show A B", "undo a b", "undo a ", "undo  a", "distance a b a",
            "distance a b ", "distance  a b", "distance A B C", "names a", "names ", "names  ", "show x y",
            "undo x y z",
        ):
            self.assert_refused(InvalidCommand, {"word": line}, line)

    def test_empty_words(self):
        # The empty word between or after spaces is a name or a text, which is wrong.
        self.assert_refused(InvalidName, {"value": ""}, "show ")
        self.assert_refused(InvalidName, {"value": ""}, "undo ")
        self.assert_refused(InvalidName, {"value": ""}, "picture  a 1")
        self.assert_refused(InvalidName, {"value": ""}, "picture  1")
        self.assert_refused(InvalidName, {"value": ""}, "picture  ")
        self.assert_refused(InvalidName, {"value": ""}, "run  a turn")
        self.assert_refused(InvalidName, {"value": ""}, "distance  a")
        self.assert_refused(InvalidName, {"value": ""}, "distance a ")
        self.assert_refused(ParseError, {"text": ""}, "picture a ")
        self.assert_refused(ParseError, {"text": ""}, "run a ")
        self.assert_refused(ParseError, {"text": ""}, "effect ")
        self.assert_refused(ParseError, {"text": ""}, "shortest ")
        self.assert_refused(ParseError, {"text": " 1"}, "picture a  1")
        self.assert_refused(ParseError, {"text": "1 "}, "picture a 1 ")
        self.assert_refused(ParseError, {"text": " turn"}, "run a  turn")

    def test_names(self):
        for word in NO_NAME_WORDS:
            for line in (
                f"picture {word} 1", f"picture {word} x", f"run {word} turn", f"run {word} x", f"show {word}",
                f"undo {word}", f"distance {word} a", f"distance {word} x", f"distance {word} {word}x",
                f"distance a {word}",
            ):
                self.assert_refused(InvalidName, {"value": word}, line)

    def test_unknown_names(self):
        for line in (
            "run c turn", "run c x", "run c ", "show c", "undo c", "distance c a", "distance c A", "distance c d",
            "distance a c", "distance c c",
        ):
            self.assert_refused(UnknownName, {"name": "c"}, line)
        self.assert_refused(InvalidName, {"value": "A"}, "distance A c")
        self.assert_refused(InvalidName, {"value": "A"}, "distance a A")

    def test_texts(self):
        for text in NO_PICTURE_TEXTS:
            self.assert_refused(ParseError, {"text": text}, "picture a " + text)
            self.assert_refused(ParseError, {"text": text}, "picture c " + text)
        for text in (*NO_STEPS_TEXTS, "; ".join(["turn"] * 201)):
            for line in ("run a ", "effect ", "shortest "):
                self.assert_refused(ParseError, {"text": text}, line + text)

    def test_steps_that_fail(self):
        self.assert_refused(LastLine, {"index": 0}, "run a cut top")
        self.assert_refused(LastLine, {"index": 2}, "run a cut left; turn; cut top")
        # Nothing was kept of them.
        self.assertEqual(self.run_lines("undo a"), ["1 2"])
        self.assert_refused(NothingToUndo, {}, "undo a")

    def test_nothing_to_undo(self):
        self.assert_refused(NothingToUndo, {}, "undo b")

    def test_distances_of_large_pictures(self):
        large = format_picture(fresh_picture(1, 101))
        larger = format_picture(fresh_picture(2, 51))
        self.run_lines("picture large " + large, "picture larger " + larger)
        self.assert_refused(LimitExceeded, {"count": 101}, "distance large a")
        self.assert_refused(LimitExceeded, {"count": 102}, "distance a larger")
        self.assert_refused(LimitExceeded, {"count": 101}, "distance large larger")
        self.assert_refused(UnknownName, {"name": "c"}, "distance large c")
        self.assert_refused(InvalidName, {"value": "C"}, "distance large C")

    def test_a_picture_that_is_refused_keeps_the_runs(self):
        self.assert_refused(ParseError, {"text": "x"}, "picture a x")
        self.assertEqual(self.run_lines("undo a"), ["1 2"])


class TestObjects(ConsoleCase):

    def test_equality(self):
        other = Console()
        self.assertTrue(self.console == self.console)
        self.assertFalse(self.console == other)
        self.assertTrue(self.console != other)
        for value in (None, 0, "", [], {}, Console, object()):
            self.assertFalse(self.console == value)

    def test_len(self):
        self.assertEqual(len(self.console), 0)
        self.run_lines("picture a 1", "picture b 1", "picture a 2", "run a turn", "undo a")
        self.assertEqual(len(self.console), 2)

    def test_consoles_are_independent(self):
        other = Console()
        self.run_lines("picture a 1 2")
        self.assertEqual(len(other), 0)
        self.assertEqual(other.execute("names"), "-")
        other.execute("picture a 5")
        self.run_lines("run a mirror")
        self.assertEqual(other.execute("show a"), "5")
        self.assertEqual(self.run_lines("show a"), ["2 1"])
