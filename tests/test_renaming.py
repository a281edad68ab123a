"""Renaming tables and columns alike everywhere renames the results: [3] (n), its second sentence."""

import unittest

from backfilled.codes import parse, show
from backfilled.entries import add_entry
from backfilled.histories import history
from backfilled.lives import Live
from backfilled.logs import Log
from backfilled.monitors import Monitor
from backfilled.papers import check_paper, paper_for
from backfilled.rewriting import derivation, tidy
from backfilled.stores import Store
from backfilled.truth import from_scratch, scratch_answer
from stores_support import LogMaker
from tests_support import ValidCodes

TABLES = {"sales": "zz", "shops": "a", "u": "sales", "v": "u", "w": "q"}


def other_name(name):
    """Another name for a column; day keeps its own."""
    return name if name == "day" else "xyzab"[len(name) % 5] + name[::-1][:7]


def renamed_tree(tree):
    """A tree with other names."""
    if not isinstance(tree, tuple) or tree[0] in ("text", "today"):
        return tree
    word, *parts = tree
    if word in ("table", "last"):
        return (word, TABLES[parts[0]], parts[1])
    if word == "column":
        return (word, other_name(parts[0]))
    if word == "keep":
        return (word, renamed_tree(parts[0]), tuple(map(other_name, parts[1])))
    if word == "rename":
        return (word, renamed_tree(parts[0]), other_name(parts[1]), other_name(parts[2]))
    if word == "with":
        return (word, renamed_tree(parts[0]), other_name(parts[1]), renamed_tree(parts[2]))
    if word == "group":
        sums = [(other_name(name), told, column and other_name(column)) for name, told, column in parts[2]]
        return (word, renamed_tree(parts[0]), tuple(map(other_name, parts[1])), tuple(sums))
    return (word, *map(renamed_tree, parts))


def renamed_columns(columns):
    return [(other_name(name), kind) for name, kind in columns]


def renamed_parts(parts):
    return [(TABLES[table], day) for table, day in parts]


def renamed_entry(entry):
    word, table, *rest = entry
    if word == "table":
        return (word, TABLES[table], renamed_columns(rest[0]), rest[1])
    if word == "code":
        return (word, TABLES[table], show(renamed_tree(parse(rest[0]))), rest[1])
    return (word, TABLES[table], *rest)


class RenamingTest(unittest.TestCase):
    def setUp(self):
        names = [name for name in ["k", "l", "m", "n", "o", "a", "b", "shop", "amount", "zzzzzzzz", "size"]]
        self.assertEqual(len({other_name(name) for name in names}), len(names))

    def pair(self, seed):
        log = LogMaker(seed).grow(16)
        other = Log()
        for entry in log.entries():
            add_entry(other, renamed_entry(entry))
        return log, other

    def test_contents_at_all_moments(self):
        for seed in range(25):
            log, other = self.pair(seed)
            for moment in range(len(log) + 1):
                self.assertEqual(other.tables(moment), {TABLES[name]: renamed_columns(columns) for name, columns in log.tables(moment).items()})
                for table in log.tables(moment):
                    for day in range(4):
                        content = from_scratch(other, TABLES[table], day, moment)
                        self.assertEqual(content.rows, from_scratch(log, table, day, moment).rows)

    def test_stores_and_what_looks_at_them(self):
        for seed in range(25):
            log, other = self.pair(seed)
            store, twin = Store(log), Store(other)
            self.assertEqual(list(twin.work()), renamed_parts(store.work()))
            self.assertEqual(len(twin.needed()), len(store.needed()))
            self.assertEqual(Monitor(twin).late(), Monitor(store).late())
            self.assertEqual(Monitor(twin).changed(5, 9), renamed_parts(Monitor(store).changed(5, 9)))
            self.assertEqual(Monitor(twin).concerned("zz", 1), renamed_parts(Monitor(store).concerned("sales", 1)))

    def test_questions(self):
        for seed in range(25):
            log, other = self.pair(seed)
            codes = ValidCodes(seed, log.tables())
            for _ in range(4):
                tree = codes.code_of(codes.random.randrange(4))
                text, question = show(tree), show(renamed_tree(tree))
                day = codes.random.randrange(4)
                self.assertEqual(scratch_answer(other, question, day).rows, scratch_answer(log, text, day).rows)
                self.assertEqual(Store(other).ask(question, day).uses(), renamed_parts(Store(log).ask(text, day).uses()))
                spans = [[(first, last, content.rows) for first, last, content in history(one, asked, day)]
                         for one, asked in [(log, text), (other, question)]]
                self.assertEqual(spans[0], spans[1])
                live, twin = Live(log, text, day), Live(other, question, day)
                while live.backward() is not None:
                    twin.backward()
                    self.assertEqual(twin.looked_at(), renamed_parts(live.looked_at()))
                self.assertIsNone(twin.backward())
                for row in scratch_answer(log, text, day).rows[:2]:
                    lines = [line if line[0] is None else (TABLES[line[0]], *line[1:]) for line in paper_for(log, text, day, row)]
                    self.assertTrue(check_paper(other, question, day, row, lines))

    def test_rewriting(self):
        for seed in range(60):
            codes = ValidCodes(seed, {"sales": [("shop", "text"), ("amount", "number")], "u": [("amount", "number"), ("a", "text")]})
            tree = codes.code_of(codes.random.randrange(1, 6))
            tables = {TABLES[name]: renamed_columns(columns) for name, columns in codes.tables.items()}
            self.assertEqual(derivation(renamed_tree(tree), tables), derivation(tree, codes.tables))
            self.assertEqual(tidy(renamed_tree(tree), tables), renamed_tree(tidy(tree, codes.tables)))


if __name__ == "__main__":
    unittest.main()
