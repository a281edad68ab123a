"""Papers: which raw rows a row comes from, line by line."""

from backfilled.asking import asked_question
from backfilled.scenes import Scenes
from backfilled.values import is_integer, is_within


def paper_for(log, question, day, row, moment=None):
    """A paper of a row of a question, or None if any value is no row of its content."""
    plan, at = asked_question(log, question, day, moment)
    scenes = Scenes(log, plan, day, at)
    if not scenes.question_scene().holds((), row):
        return None
    writer = Writer(scenes)
    return writer.lines_for((None, day, (), row))


def check_paper(log, question, day, row, paper, moment=None):
    """Whether any value is a paper of any value, a row of a question."""
    plan, at = asked_question(log, question, day, moment)
    scenes = Scenes(log, plan, day, at)
    if not isinstance(paper, list) or not scenes.question_scene().holds((), row):
        return False
    for number in range(len(paper)):
        if not is_right(scenes, paper, number):
            return False
    return len(paper) > 0 and paper[-1][:4] == (None, day, (), row)


class Writer:
    """Writes the lines of a paper, each row once."""

    def __init__(self, scenes):
        self._scenes = scenes
        self._lines = []
        self._numbers = {}
        self._ways = {}

    def lines_for(self, place):
        """The lines that lead to a row, told by its table, day, path and itself."""
        # A chain of reasons may be longer than calls may stand within one another.
        waiting = [place]
        while waiting:
            place = waiting[-1]
            word, inner = self._way(place)
            missing = [] if word == "raw" else [row for row in inner if row not in self._numbers]
            if missing:
                waiting.extend(missing)
            else:
                self._write(place, word, inner)
                waiting.pop()
        return self._lines

    def _way(self, place):
        """The first way in which a row may come about."""
        if place not in self._ways:
            scene = self._scenes.scene(place[0], place[1])
            self._ways[place] = scene.ways(place[2], place[3])[0]
        return self._ways[place]

    def _write(self, place, word, inner):
        """Writes the line of a row, if it is not there yet."""
        if place not in self._numbers:
            self._numbers[place] = len(self._lines)
            self._lines.append((*place, self._reason(word, inner)))

    def _reason(self, word, inner):
        """The reason of a line, by the indexes of those that it rests on."""
        if word == "raw":
            return (word, inner[0])
        indexes = tuple([self._numbers[row] for row in inner])
        return (word, indexes) if word == "all" else (word, *indexes)


def is_right(scenes, paper, number):
    """Whether an item of a paper is a right line, if all items ahead of it are."""
    line = paper[number]
    if not isinstance(line, tuple) or len(line) != 5:
        return False
    table, day, path, row, reason = line
    if not scenes.is_place(table, day) or not isinstance(reason, tuple) or not reason:
        return False
    scene = scenes.scene(table, day)
    return scene.holds(path, row) and told_way(paper, number, reason) in scene.ways(path, row)


def told_way(paper, number, reason):
    """The way that a reason tells, with lines in the place of their indexes; None if it has no such form."""
    indexes = reason[1:]
    if reason[0] == "all":
        if len(reason) != 2 or not isinstance(reason[1], tuple):
            return None
        indexes = reason[1]
    if reason[0] == "raw":
        return ("raw", list(indexes)) if all([is_integer(moment) for moment in indexes]) else None
    if not all([is_within(at, 0, number - 1) for at in indexes]):
        return None
    return (reason[0], [paper[at][:4] for at in indexes])
