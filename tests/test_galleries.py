"""[13], names and users, [2] for objects that change, and the section pictureframes/galleries.py."""

import itertools
import random

from pictureframes.errors import (
    InvalidName, InvalidPicture, InvalidSequence, LastLine, NothingToUndo, UnknownName,
)
from pictureframes.galleries import Gallery
from pictureframes.pictures import Picture
from pictureframes.running import run
from samples import (
    MIRROR, NAMES, NO_NAMES, NO_PICTURES, NO_SEQUENCES, TURN, RaisingCase, all_wrong_steps, fresh_picture, some_steps,
)

CUT = ("cut", "left")
LETTER_PAIRS = ["".join(pair) for pair in itertools.product("abcdefghij", "xyz")]


def many_pictures(many):
    """Return a dict with so many names."""
    return {name: fresh_picture(1, 1 + place) for place, name in enumerate(LETTER_PAIRS[:many])}


class GalleryCase(RaisingCase):

    def setUp(self):
        self.first = Picture([[1, 2, 3]])
        self.second = Picture([[4], [5]])
        self.pictures = {"b": self.second, "a": self.first}
        self.gallery = Gallery(self.pictures)

    def state(self, gallery):
        """Return all that can be seen of a gallery."""
        return len(gallery), gallery.names, gallery.entries, [gallery.picture(name).rows for name in gallery.names]

    def assert_unchanged(self, error, fields, gallery, call, *args, **named):
        """Demand an error, and that it changes nothing."""
        before = self.state(gallery)
        twin = gallery.copy()
        self.assert_raises(error, fields, call, *args, **named)
        self.assertEqual(self.state(gallery), before)
        self.assertEqual(gallery, twin)


class TestExamples(RaisingCase):

    def test_undo(self):
        gallery = Gallery({"a": Picture([[1, 2]])})
        gallery.run("ann", "a", [("mirror",)])
        gallery.run("bo", "a", [("cut", "left")])
        entry = gallery.undo("ann")
        self.assertEqual(repr((entry, gallery.picture("a").rows)), "(('ann', 'a', [('mirror',)]), ((2,),))")


class TestMaking(GalleryCase):

    def test_new(self):
        self.assertEqual(self.gallery.names, ["a", "b"])
        self.assertEqual(self.gallery.entries, [])
        self.assertEqual(len(self.gallery), 0)
        self.assertEqual(self.gallery.picture("a"), self.first)
        self.assertEqual(self.gallery.picture("b"), self.second)
        self.assertEqual(Gallery(pictures=self.pictures), self.gallery)

    def test_how_many(self):
        for many in (1, 2, 19, 20):
            gallery = Gallery(many_pictures(many))
            self.assertEqual(gallery.names, sorted(LETTER_PAIRS[:many]))
        for many in (0, 21, 30):
            pictures = many_pictures(many)
            self.assert_raises(InvalidName, {"value": pictures}, Gallery, pictures)
        # More than 20 are refused whatever they are.
        pictures = {**many_pictures(20), "A": None}
        self.assert_raises(InvalidName, {"value": pictures}, Gallery, pictures)

    def test_no_dicts(self):
        pairs = [("a", self.first)]
        for value in (None, True, 0, "", "a", [], (), pairs, {"a"}, self.first, self.gallery, object(), dict):
            self.assert_raises(InvalidName, {"value": value}, Gallery, value)

    def test_names(self):
        for name in NAMES:
            self.assertEqual(Gallery({name: self.first}).names, [name])
        for value in NO_NAMES:
            if not isinstance(value, (list, dict, set)):
                self.assert_raises(InvalidName, {"value": value}, Gallery, {value: self.first})
                self.assert_raises(InvalidName, {"value": value}, Gallery, {"a": None, value: None, "B": self.first})

    def test_pictures(self):
        for value in NO_PICTURES:
            self.assert_raises(InvalidPicture, {"value": value}, Gallery, {"a": value})
            self.assert_raises(InvalidPicture, {"value": value}, Gallery, {"a": self.first, "b": value, "c": None})
            self.assert_raises(InvalidName, {"value": "C"}, Gallery, {"a": value, "C": self.first})

    def test_later_changes_of_the_dict(self):
        self.pictures["a"] = self.second
        self.pictures["c"] = self.first
        del self.pictures["b"]
        self.assertEqual(self.gallery.names, ["a", "b"])
        self.assertEqual(self.gallery.picture("a"), self.first)
        self.assertEqual(self.gallery, Gallery({"a": self.first, "b": self.second}))
        self.gallery.run("ann", "a", [CUT])
        self.assertEqual(self.pictures, {"a": self.second, "c": self.first})
        self.pictures.clear()
        self.gallery.undo("ann")
        self.assertEqual(self.gallery.picture("a"), self.first)


class TestRun(GalleryCase):

    def test_results(self):
        steps = [MIRROR, ("add", "top", 7)]
        result = self.gallery.run("ann", "a", steps)
        self.assertEqual(result, Picture([[7, 7, 7], [3, 2, 1]]))
        self.assertEqual(self.gallery.picture("a"), result)
        self.assertEqual(self.gallery.picture("b"), self.second)
        self.assertEqual(self.gallery.entries, [("ann", "a", steps)])
        self.assertEqual(self.gallery.run(steps=(TURN,), name="b", user="b"), Picture([[5, 4]]))
        self.assertEqual(self.gallery.run("ann", "a", []), result)
        self.assertEqual(self.gallery.entries, [("ann", "a", steps), ("b", "b", [TURN]), ("ann", "a", [])])
        self.assertEqual(len(self.gallery), 3)

    def test_kinds_of_entries(self):
        self.gallery.run("ann", "a", (MIRROR,))
        entry = self.gallery.entries[0]
        self.assertIs(type(self.gallery.entries), list)
        self.assertIs(type(entry), tuple)
        self.assertIs(type(entry[2]), list)
        self.assertEqual(self.gallery.undo("ann"), ("ann", "a", [MIRROR]))

    def test_users(self):
        for user in NAMES:
            self.gallery.run(user, "a", [MIRROR])
        self.assertEqual([entry[0] for entry in self.gallery.entries], list(NAMES))

    def test_errors(self):
        wrong = [None, [CUT, None], [CUT] * 3]
        for value in NO_NAMES:
            for name in ("a", "c", None, []):
                for steps in wrong:
                    self.assert_run_refused(InvalidName, {"value": value}, value, name, steps)
            for steps in wrong:
                self.assert_run_refused(UnknownName, {"name": value}, "ann", value, steps)
        for steps in wrong:
            self.assert_run_refused(UnknownName, {"name": "ann"}, "ann", "ann", steps)
        for value in NO_SEQUENCES:
            self.assert_run_refused(InvalidSequence, {"index": None}, "ann", "a", value)
        for value in all_wrong_steps():
            # A step that fails counts only if all of them are steps.
            steps = [CUT, CUT, CUT, value, value]
            self.assert_run_refused(InvalidSequence, {"index": 3}, "ann", "a", steps)
        self.assert_run_refused(LastLine, {"index": 2}, "ann", "a", [CUT] * 4)
        self.assert_run_refused(LastLine, {"index": 1}, "ann", "a", [MIRROR, ("cut", "top")])
        self.gallery.run("ann", "a", [CUT, CUT])
        self.assert_run_refused(LastLine, {"index": 0}, "ann", "a", [CUT])

    def assert_run_refused(self, error, fields, user, name, steps):
        self.assert_unchanged(error, fields, self.gallery, self.gallery.run, user, name, steps)

    def test_later_changes_of_lists(self):
        steps = [MIRROR]
        self.gallery.run("ann", "a", steps)
        steps.append(CUT)
        self.assertEqual(self.gallery.entries, [("ann", "a", [MIRROR])])
        entries = self.gallery.entries
        entries[0][2].append(CUT)
        entries.clear()
        self.gallery.names.clear()
        self.assertEqual(self.gallery.entries, [("ann", "a", [MIRROR])])
        self.assertEqual(self.gallery.names, ["a", "b"])
        twin = self.gallery.copy()
        entry = self.gallery.undo("ann")
        entry[2].append(CUT)
        self.assertEqual(twin.entries, [("ann", "a", [MIRROR])])


class TestPicture(GalleryCase):

    def test_unknown_names(self):
        for value in (*NO_NAMES, "c", "ab", "aa"):
            self.assert_raises(UnknownName, {"name": value}, self.gallery.picture, value)
            self.assert_raises(UnknownName, {"name": value}, self.gallery.picture, name=value)


class TestUndo(GalleryCase):

    def test_one_after_the_other(self):
        self.gallery.run("ann", "a", [CUT])
        self.gallery.run("ann", "b", [MIRROR])
        self.gallery.run("ann", "a", [MIRROR])
        self.assertEqual(self.gallery.undo("ann"), ("ann", "a", [MIRROR]))
        self.assertEqual(self.gallery.picture("a"), Picture([[2, 3]]))
        self.assertEqual(self.gallery.undo(user="ann"), ("ann", "b", [MIRROR]))
        self.assertEqual(self.gallery.undo("ann"), ("ann", "a", [CUT]))
        self.assertEqual(self.gallery, Gallery(self.pictures))
        self.assertEqual(self.gallery.picture("a"), self.first)
        self.assert_unchanged(NothingToUndo, {}, self.gallery, self.gallery.undo, "ann")

    def test_an_entry_in_the_middle(self):
        self.gallery.run("bo", "a", [("add", "left", 7)])
        self.gallery.run("ann", "a", [MIRROR])
        self.gallery.run("bo", "b", [TURN])
        self.gallery.run("bo", "a", [("cut", "left")])
        self.assertEqual(self.gallery.picture("a"), Picture([[2, 1, 7]]))
        self.assertEqual(self.gallery.undo("ann"), ("ann", "a", [MIRROR]))
        self.assertEqual(self.gallery.picture("a"), Picture([[1, 2, 3]]))
        self.assertEqual(self.gallery.picture("b"), Picture([[5, 4]]))
        expected = [("bo", "a", [("add", "left", 7)]), ("bo", "b", [TURN]), ("bo", "a", [("cut", "left")])]
        self.assertEqual(self.gallery.entries, expected)
        self.assertEqual(len(self.gallery), 3)
        self.gallery.run("ann", "a", [MIRROR])
        self.assertEqual(self.gallery.picture("a"), Picture([[3, 2, 1]]))

    def test_an_entry_that_would_fail(self):
        gallery = self.gallery
        gallery.run("bo", "b", [MIRROR])
        gallery.run("ann", "a", [("add", "top", 7)])
        gallery.run("bo", "b", [TURN])
        gallery.run("bo", "a", [MIRROR])
        gallery.run("bo", "a", [MIRROR, MIRROR, ("cut", "top")])
        gallery.run("bo", "b", [TURN])
        gallery.run("cy", "a", [("add", "top", 7), ("cut", "top")])
        # Without the entry 1, the entry 4 comes to the index 3 and cuts off the last row.
        self.assert_unchanged(LastLine, {"index": 3}, gallery, gallery.undo, "ann")
        self.assertEqual(gallery.undo("cy"), ("cy", "a", [("add", "top", 7), ("cut", "top")]))
        self.assert_unchanged(LastLine, {"index": 3}, gallery, gallery.undo, "ann")
        gallery.undo("bo")
        gallery.undo("bo")
        self.assertEqual(gallery.undo("ann"), ("ann", "a", [("add", "top", 7)]))
        self.assertEqual(gallery.picture("a"), Picture([[3, 2, 1]]))

    def test_only_entries_of_this_picture_count(self):
        gallery = self.gallery
        gallery.run("ann", "a", [("add", "top", 7)])
        gallery.run("bo", "b", [("cut", "top")])
        gallery.run("bo", "a", [CUT])
        gallery.undo("ann")
        self.assertEqual(gallery.picture("a"), Picture([[2, 3]]))
        self.assertEqual(gallery.picture("b"), Picture([[5]]))

    def test_the_first_entry_that_would_fail(self):
        gallery = Gallery({"a": Picture([[1]])})
        gallery.run("ann", "a", [("add", "top", 7)] * 2)
        gallery.run("bo", "a", [("cut", "top")])
        gallery.run("bo", "a", [("cut", "top")])
        self.assert_unchanged(LastLine, {"index": 0}, gallery, gallery.undo, "ann")
        gallery.run("ann", "a", [("add", "top", 8)] * 2)
        gallery.run("bo", "a", [("cut", "top")] * 2)
        self.assert_unchanged(LastLine, {"index": 3}, gallery, gallery.undo, "ann")

    def test_errors(self):
        for value in NO_NAMES:
            self.assert_unchanged(InvalidName, {"value": value}, self.gallery, self.gallery.undo, value)
        self.assert_unchanged(NothingToUndo, {}, self.gallery, self.gallery.undo, "ann")
        self.gallery.run("ann", "a", [MIRROR])
        for user in ("a", "an", "anna", "bo"):
            self.assert_unchanged(NothingToUndo, {}, self.gallery, self.gallery.undo, user)

    def test_against_running_all_again(self):
        chosen = random.Random(1)
        undone = failed = 0
        for _ in range(60):
            start = {"a": fresh_picture(1, 2), "b": fresh_picture(1, 1)}
            gallery = Gallery(start)
            entries = []
            for _ in range(30):
                user = chosen.choice(("ann", "bo", "cy"))
                if chosen.randrange(3) > 0:
                    name = chosen.choice(("a", "b"))
                    words = ("turn", "mirror", "cut", "cut", "add", "add")
                    steps = some_steps(chosen, chosen.randrange(4), words=words)
                    if self.try_run(gallery, user, name, steps):
                        entries.append((user, name, steps))
                elif user in [entry[0] for entry in entries]:
                    place = max(place for place, entry in enumerate(entries) if entry[0] == user)
                    left = entries[:place] + entries[place + 1:]
                    index = self.first_to_fail(start, left)
                    if index is None:
                        self.assertEqual(gallery.undo(user), entries[place])
                        entries = left
                        undone += 1
                    else:
                        self.assert_unchanged(LastLine, {"index": index}, gallery, gallery.undo, user)
                        failed += 1
                self.compare(gallery, start, entries)
        self.assertGreater(undone, 50)
        self.assertGreater(failed, 10)

    def try_run(self, gallery, user, name, steps):
        """Run a sequence and tell whether it succeeded; demand that it fails where the picture says so."""
        try:
            expected = run(gallery.picture(name), steps)
        except LastLine as error:
            self.assert_unchanged(LastLine, {"index": error.index}, gallery, gallery.run, user, name, steps)
            return False
        self.assertEqual(gallery.run(user, name, steps), expected)
        return True

    def first_to_fail(self, start, entries):
        """Return the index of the first entry that fails, or None."""
        pictures = dict(start)
        for index, (_, name, steps) in enumerate(entries):
            try:
                pictures[name] = run(pictures[name], steps)
            except LastLine:
                return index
        return None

    def compare(self, gallery, start, entries):
        """Compare a gallery with a new one in which these entries are made."""
        self.assertEqual(gallery.entries, entries)
        self.assertEqual(len(gallery), len(entries))
        fresh = Gallery(start)
        for entry in entries:
            fresh.run(*entry)
        self.assertEqual(gallery, fresh)
        for name in start:
            self.assertEqual(gallery.picture(name), fresh.picture(name))


class TestEquality(GalleryCase):

    def test_beginnings_and_entries(self):
        self.assertEqual(self.gallery, Gallery({"a": self.first, "b": self.second}))
        self.assertEqual(self.gallery, Gallery({"a": Picture([[1, 2, 3]]), "b": Picture([[4], [5]])}))
        self.assertNotEqual(self.gallery, Gallery({"a": self.first}))
        self.assertNotEqual(self.gallery, Gallery({"a": self.first, "c": self.second}))
        self.assertNotEqual(self.gallery, Gallery({"a": self.second, "b": self.first}))
        other = Gallery(self.pictures)
        self.gallery.run("ann", "a", [MIRROR])
        self.assertNotEqual(self.gallery, other)
        other.run("ann", "a", (MIRROR,))
        self.assertEqual(self.gallery, other)
        self.gallery.run("ann", "a", [TURN])
        other.run("bo", "a", [TURN])
        self.assertNotEqual(self.gallery, other)

    def test_pictures_of_now_do_not_count(self):
        other = Gallery({"a": Picture([[3, 2, 1]]), "b": self.second})
        other.run("ann", "a", [MIRROR])
        self.assertEqual(other.picture("a"), self.first)
        self.assertNotEqual(self.gallery, other)
        # The same pictures, but other steps to them.
        one, two = Gallery(self.pictures), Gallery(self.pictures)
        one.run("ann", "a", [])
        two.run("ann", "a", [MIRROR, MIRROR])
        self.assertEqual(one.picture("a"), two.picture("a"))
        self.assertNotEqual(one, two)

    def test_other_pictures_or_order(self):
        one, two = Gallery({"a": self.first, "b": self.first}), Gallery({"a": self.first, "b": self.first})
        one.run("ann", "a", [MIRROR])
        two.run("ann", "b", [MIRROR])
        self.assertNotEqual(one, two)
        one.run("ann", "b", [MIRROR])
        two.run("ann", "a", [MIRROR])
        self.assertNotEqual(one, two)
        one.undo("ann")
        two.undo("ann")
        one.undo("ann")
        two.undo("ann")
        self.assertEqual(one, two)

    def test_other_values(self):
        for value in (None, True, 0, "", [], {}, self.pictures, self.first, object(), Gallery):
            self.assertFalse(self.gallery == value)
            self.assertTrue(self.gallery != value)


class TestCopy(GalleryCase):

    def test_independent(self):
        self.gallery.run("ann", "a", [MIRROR])
        twin = self.gallery.copy()
        self.assertIs(type(twin), Gallery)
        self.assertEqual(twin, self.gallery)
        self.assertEqual(self.state(twin), self.state(self.gallery))
        before = self.state(self.gallery)
        twin.run("bo", "a", [CUT])
        twin.run("ann", "b", [TURN])
        twin.undo("ann")
        twin.undo("ann")
        self.assertEqual(self.state(self.gallery), before)
        self.assertEqual(twin.picture("a"), Picture([[2, 3]]))
        self.assertNotEqual(twin, self.gallery)
        after = self.state(twin)
        self.gallery.undo("ann")
        self.gallery.run("cy", "b", [MIRROR])
        self.assertEqual(self.state(twin), after)

    def test_undo_in_the_copy(self):
        self.gallery.run("ann", "a", [CUT])
        self.gallery.run("bo", "a", [MIRROR])
        twin = self.gallery.copy()
        self.assertEqual(twin.undo("ann"), ("ann", "a", [CUT]))
        self.assertEqual(twin.picture("a"), Picture([[3, 2, 1]]))
        self.assertEqual(self.gallery.picture("a"), Picture([[3, 2]]))
