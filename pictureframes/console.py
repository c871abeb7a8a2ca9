"""A console: pictures that are kept by names and changed by command lines."""

from pictureframes.checks import check_name
from pictureframes.effects import Effect
from pictureframes.errors import InvalidCommand, LimitExceeded, NothingToUndo, UnknownName
from pictureframes.formats import format_effect, format_picture, format_steps, parse_picture, parse_steps
from pictureframes.plans import distance
from pictureframes.running import run
from pictureframes.shortening import shortest

MOST_PICTURES = 20
# For the first word of each form, how many words there are, or at least are where the rest of the line is one text.
WORDS = {
    "picture": 3, "run": 3, "show": 2, "undo": 2, "effect": 2, "shortest": 2, "distance": 3, "names": 1,
}
WITH_TEXT = ("picture", "run", "effect", "shortest")


def _is_command(words):
    """Tell whether these are the words of a command."""
    if words[0] not in WORDS:
        return False
    least = WORDS[words[0]]
    return len(words) == least or (len(words) > least and words[0] in WITH_TEXT)


def _effect(text):
    """Return the effect of the sequence that has this text."""
    return Effect.of(parse_steps(text))


class Console:
    """Up to 20 pictures by names."""

    def __init__(self):
        # For each name the picture as it was kept, and after each run since then that was not taken back.
        self._kept = {}

    def execute(self, line):
        """Execute a command line and return its answer."""
        if not isinstance(line, str):
            raise InvalidCommand(line)
        words = line.split(" ")
        if not _is_command(words):
            raise InvalidCommand(line)
        word = words[0]
        if word == "picture":
            return self._keep(words[1], " ".join(words[2:]))
        if word == "run":
            return self._run(words[1], " ".join(words[2:]))
        if word == "show":
            return format_picture(self._states(words[1])[-1])
        if word == "undo":
            return self._undo(words[1])
        if word == "effect":
            return format_effect(_effect(" ".join(words[1:])))
        if word == "shortest":
            return format_steps(shortest(_effect(" ".join(words[1:]))))
        if word == "distance":
            return self._distance(words[1], words[2])
        return self._names()

    def _states(self, name):
        """Return the list of the pictures that are kept by a name, the present one last."""
        check_name(name)
        if name not in self._kept:
            raise UnknownName(name)
        return self._kept[name]

    def _keep(self, name, text):
        """Keep the picture with this text by a name."""
        check_name(name)
        picture = parse_picture(text)
        if name not in self._kept and len(self._kept) == MOST_PICTURES:
            raise LimitExceeded(MOST_PICTURES + 1)
        self._kept[name] = [picture]
        return "ok"

    def _run(self, name, text):
        """Run the sequence with this text on a picture."""
        states = self._states(name)
        picture = run(states[-1], parse_steps(text))
        states.append(picture)
        return format_picture(picture)

    def _undo(self, name):
        """Take back the last run on a picture."""
        states = self._states(name)
        if len(states) == 1:
            raise NothingToUndo()
        states.pop()
        return format_picture(states[-1])

    def _distance(self, start, goal):
        """Tell the least number of steps from one picture to another."""
        before = self._states(start)[-1]
        after = self._states(goal)[-1]
        steps = distance(before, after)
        return "none" if steps is None else str(steps)

    def _names(self):
        """Tell the names."""
        if len(self._kept) == 0:
            return "-"
        return " ".join(sorted(list(self._kept)))

    def __len__(self):
        return len(self._kept)
