"""Reading journals with right check numbers and wrong lines, against a naive reader that goes by the document's words."""

import random
import re
import unittest

from backfilled.checks import needs_of
from backfilled.codes import parse, show
from backfilled.errors import BackfilledError
from backfilled.journals import recover
from backfilled.logs import Log
from backfilled.stores import Store
from backfilled.truth import from_scratch, scratch_answer
from backfilled.values import is_name
from stores_support import LogMaker, texts, written, written_anew

NUMBER = "(0|-?[1-9][0-9]{0,39})"
NUMBERS = "((?:0|[1-9][0-9]*)(?:,(?:0|[1-9][0-9]*))*|-)"
VALUE = "(?:0|-?[1-9][0-9]{0,39}|'[a-z0-9 ]{0,20}')"
FORMS = {
    "table": f"([a-z]+) {NUMBER} ([a-z]+:[a-z]+(?:,[a-z]+:[a-z]+)*)", "put": f"([a-z]+) {NUMBER} ({VALUE}(?:,{VALUE})*)",
    "delete": f"([a-z]+) {NUMBER} ({VALUE}(?:,{VALUE})*)", "code": f"([a-z]+) {NUMBER} (.+)",
    "record": f"([a-z]+) {NUMBER} {NUMBERS} (.+)", "name": f"([a-z]+) {NUMBER} {NUMBER} (.+)",
}
ODD_WORDS = "0 1 2 3 7 -1 -0 01 - x u v sales 5,5 1,2 'a' 1000 big 2,0".split() + [""]


class Reader:
    """Says which lines can stand behind one another."""

    def __init__(self):
        self.log, self.records, self.names, self.reached = Log(), [], [], 0

    def takes(self, text):
        word, _, rest = text.partition(" ")
        found = re.fullmatch(FORMS[word], rest) if word in FORMS else None
        place = {"record": 1, "name": 2}.get(word, 0)
        if not found or place < self.reached:
            return False
        try:
            if not getattr(self, word)(*found.groups()):
                return False
        except BackfilledError:
            return False
        self.reached = place
        return True

    def table(self, name, keys, columns):
        return self.log.add_table(name, [tuple(column.split(":")) for column in columns.split(",")], int(keys))

    def put(self, name, day, values):
        return self.log.put(name, int(day), tuple(eval(value) for value in values.split(",")))

    def delete(self, name, day, values):
        return self.log.delete(name, int(day), tuple(eval(value) for value in values.split(",")))

    def code(self, name, day, text):
        return show(parse(text)) == text and self.log.set_code(name, text, int(day))

    def record(self, table, day, moments, text):
        held = [entry for entry in self.log.entries() if entry[:3] == ("code", table, text) and 0 <= entry[3] <= int(day) < 1000]
        needs = needs_of(parse(text), int(day)) if held else []
        told = [] if moments == "-" else [int(moment) for moment in moments.split(",")]
        if not held or len(needs) != len(told):
            return False
        inputs = []
        for (name, on), moment in zip(needs, told):
            content = from_scratch(self.log.copy(moment), name, on)
            earlier = [self.log.copy(before) for before in range(moment)]
            if content in [from_scratch(log, name, on) for log in earlier if name in log.tables()]:
                return False
            inputs.append(content)
        if (table, day, text, inputs) in self.records:
            return False
        self.records.append((table, day, text, inputs))
        return True

    def name(self, name, day, moment, text):
        if not is_name(name) or name in self.names or show(parse(text)) != text:
            return False
        scratch_answer(self.log, text, int(day), int(moment))
        self.names.append(name)
        return True


def changed(chance, lines):
    """Lines with one of them moved, left out, put in once more or changed."""
    lines = list(lines)
    at = chance.randrange(len(lines))
    words = lines[at].split(" ")
    pick = chance.randrange(5)
    if pick == 0:
        lines.insert(chance.randrange(len(lines) + 1), lines[at])
    elif pick == 1:
        lines.insert(chance.randrange(len(lines)), lines.pop(at))
    elif pick == 2:
        words[chance.randrange(len(words))] = chance.choice(ODD_WORDS)
        lines[at] = " ".join(words)
    elif pick == 3:
        lines[at] = re.sub("[0-9]+", lambda found: str(max(0, int(found[0]) + chance.choice([0, 0, 1, -1]))), lines[at])
    else:
        del lines[at]
    return lines


class RecoverTest(unittest.TestCase):
    def test_changed_journals(self):
        counts = {True: 0, False: 0}
        for seed in range(25):
            chance = random.Random(seed)
            maker = LogMaker(seed)
            store = Store(maker.grow(chance.randrange(4, 9)))
            for name in ("one", "two"):
                list(store.work())
                store.ask(chance.choice(list(store.log.tables())), chance.randrange(4), None, name)
                maker.grow(2)
            base = texts(store)
            for _ in range(30):
                lines = changed(chance, base)
                reader = Reader()
                many = 0
                while many < len(lines) and reader.takes(lines[many]):
                    many += 1
                again, used = recover(written(lines))
                self.assertEqual(used, many, lines[min(many, used):][:1])
                self.assertEqual(written_anew(again), written(lines[:many]))
                counts[many == len(lines)] += 1
        self.assertGreater(min(counts.values()), 100)


if __name__ == "__main__":
    unittest.main()
