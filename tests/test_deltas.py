"""Differences that pass through codes."""

import random
import unittest

from backfilled.checks import needs_of
from backfilled.codes import parse
from backfilled.contents import Content
from backfilled.deltas import pass_through
from backfilled.differences import Difference
from backfilled.errors import BadCode
from backfilled.truth import evaluate
from tests_support import ValidCodes, fields_of

TABLES = {
    "t": [("a", "number"), ("b", "text")],
    "u": [("b", "text"), ("a", "number")],
    "v": [("b", "text"), ("c", "number")],
}


def content(table, *rows):
    return Content(TABLES[table], list(rows))


def computed(code, day, contents):
    return evaluate(code, day, TABLES, lambda table, on: contents[(table, on)])


class KindsTest(unittest.TestCase):
    """One difference of t through each kind of part."""

    def passes(self, text, before, after, come, gone, **others):
        code = parse(text)
        old = {("t", 0): content("t", *before)}
        for name, rows in others.items():
            old[(name, 0)] = content(name, *rows)
        changes = {("t", 0): Difference(content("t", *before), content("t", *after))}
        difference = pass_through(code, 0, TABLES, old, changes)
        self.assertEqual((difference.come.rows, difference.gone.rows), (come, gone))
        self.assertEqual(difference, Difference(computed(code, 0, old), computed(code, 0, {**old, ("t", 0): content("t", *after)})))

    def test_tables(self):
        self.passes("t", [(1, "x")], [(2, "y")], [(2, "y")], [(1, "x")])
        self.passes("t last 3", [], [(2, "y")], [(0, 2, "y")], [])
        self.passes("t", [(1, "x")], [(1, "x")], [], [])

    def test_where_and_with(self):
        self.passes("t | where a < 5", [(1, "x"), (7, "x")], [(2, "x"), (8, "x")], [(2, "x")], [(1, "x")])
        self.passes("t | where a < 5", [(7, "x")], [(8, "x")], [], [])
        self.passes("t | with n = a + 1", [(1, "x")], [(1, "x"), (2, "x")], [(2, "x", 3)], [])

    def test_keep(self):
        self.passes("t | keep b", [(1, "x")], [(1, "x"), (2, "x")], [], [])
        self.passes("t | keep b", [(1, "x"), (2, "x")], [(2, "x")], [], [])
        self.passes("t | keep b", [(1, "x"), (2, "x")], [(2, "y")], [("y",)], [("x",)])
        self.passes("t | rename a n", [(1, "x")], [], [], [(1, "x")])

    def test_groups(self):
        text = "t | group b: n = count, s = sum a, l = least a, g = greatest a"
        self.passes(text, [], [(1, "x")], [("x", 1, 1, 1, 1)], [])
        self.passes(text, [(1, "x")], [], [], [("x", 1, 1, 1, 1)])
        self.passes(text, [(1, "x"), (2, "y")], [(1, "x"), (3, "x"), (2, "y")], [("x", 2, 4, 1, 3)], [("x", 1, 1, 1, 1)])
        self.passes("t | group b: n = count", [(1, "x")], [(2, "x")], [], [])
        self.passes("t | group: n = count", [(1, "x")], [], [], [(1,)])

    def test_unions_and_minus(self):
        self.passes("t | union u", [], [(1, "x"), (2, "x")], [(2, "x")], [], u=[("x", 1)])
        self.passes("u | union t", [(1, "x"), (2, "x")], [], [], [("x", 2)], u=[("x", 1)])
        self.passes("t | union t", [(1, "x")], [(2, "x")], [(2, "x")], [(1, "x")])
        self.passes("t | minus u", [], [(1, "x"), (2, "x")], [(2, "x")], [], u=[("x", 1)])
        self.passes("u | minus t", [(1, "x")], [], [("x", 1)], [], u=[("x", 1)])
        self.passes("u | minus t", [], [(1, "x"), (5, "x")], [], [("x", 1)], u=[("x", 1), ("x", 2)])
        self.passes("t | minus t", [(1, "x")], [(2, "x")], [], [])

    def test_joins(self):
        self.passes("t | join v", [(1, "x")], [(1, "x"), (2, "x"), (3, "y")], [(2, "x", 8), (2, "x", 9)], [], v=[("x", 8), ("x", 9)])
        self.passes("v | join t", [(1, "x")], [(2, "y")], [("y", 9, 2)], [("x", 8, 1)], v=[("x", 8), ("y", 9)])
        self.passes("t | join (t | with c = a * 2)", [(1, "x")], [(1, "x"), (2, "x")], [(2, "x", 4)], [])


class ChangesTest(unittest.TestCase):
    def test_changes_on_both_sides(self):
        code = parse("t | join v")
        old = {("t", 0): content("t", (1, "x")), ("v", 0): content("v", ("x", 5), ("y", 6))}
        new = {("t", 0): content("t", (2, "y")), ("v", 0): content("v", ("x", 5), ("y", 7))}
        changes = {part: Difference(old[part], new[part]) for part in old}
        difference = pass_through(code=code, day=0, tables=TABLES, old=old, changes=changes)
        self.assertEqual((difference.come.rows, difference.gone.rows), ([(2, "y", 7)], [(1, "x", 5)]))

    def test_the_same_table_on_several_days(self):
        code = parse("t last 3 | keep a b | minus t - 1")
        old = {("t", day): content("t", (day, "x")) for day in (2, 3, 4)}
        changes = {("t", 3): Difference(old[("t", 3)], content("t", (2, "x"))), ("t", 4): Difference(old[("t", 4)], old[("t", 4)])}
        difference = pass_through(code, 4, TABLES, old, changes)
        self.assertEqual((difference.come.rows, difference.gone.rows), ([], [(2, "x")]))
        changes = {("t", 2): Difference(old[("t", 2)], content("t", (3, "x"), (9, "x")))}
        difference = pass_through(code, 4, TABLES, old, changes)
        self.assertEqual((difference.come.rows, difference.gone.rows), ([(9, "x")], [(2, "x")]))

    def test_no_changes(self):
        for changes in ({}, {("t", 0): Difference(content("t", (1, "x")), content("t", (1, "x")))}):
            difference = pass_through(parse("t | keep b"), 0, TABLES, {("t", 0): content("t", (1, "x"))}, changes)
            self.assertEqual((len(difference), difference.come.columns), (0, [("b", "text")]))

    def test_days_ahead_of_day_0(self):
        self.assertEqual(len(pass_through(parse("t - 3"), 2, TABLES, {}, {})), 0)
        old = {("t", 0): content("t"), ("t", 1): content("t", (4, "x"))}
        changes = {("t", 0): Difference(content("t"), content("t", (1, "x")))}
        self.assertEqual(pass_through(parse("t last 5"), 1, TABLES, old, changes).come.rows, [(0, 1, "x")])

    def test_today(self):
        old = {("t", 4): content("t", (4, "x"), (5, "x"))}
        changes = {("t", 4): Difference(old[("t", 4)], content("t", (3, "x"), (4, "y")))}
        difference = pass_through(parse("t | where a = today | keep b"), 4, TABLES, old, changes)
        self.assertEqual((difference.come.rows, difference.gone.rows), ([("y",)], [("x",)]))

    def test_bad_codes_come_ahead_of_all_else(self):
        for old, changes in [(None, None), ({}, {}), ([], 5)]:
            part = ("where", ("table", "t", 0), ("<", ("column", "b"), 3))
            fields = fields_of(self, BadCode, pass_through, parse("t | where b < 3 | keep a"), 0, TABLES, old, changes)
            self.assertEqual(fields, {"part": part})
            self.assertEqual(fields_of(self, BadCode, pass_through, parse("w"), 0, TABLES, old, changes), {"part": ("table", "w", 0)})

    def test_arguments_do_not_change(self):
        old = {("t", 0): content("t", (1, "x"))}
        changes = {("t", 0): Difference(old[("t", 0)], content("t", (2, "x")))}
        tables = {name: list(columns) for name, columns in TABLES.items()}
        for _ in range(2):
            difference = pass_through(parse("t | keep a"), 0, tables, old, changes)
            self.assertEqual((difference.come.rows, difference.gone.rows), ([(2,)], [(1,)]))
        self.assertEqual((old, tables), ({("t", 0): content("t", (1, "x"))}, TABLES))
        self.assertEqual(changes, {("t", 0): Difference(content("t", (1, "x")), content("t", (2, "x")))})


class RandomTest(unittest.TestCase):
    def test_against_contents_computed_anew(self):
        changed = 0
        for seed in range(600):
            codes = ValidCodes(seed, TABLES)
            chance = codes.random
            code = codes.code_of(chance.randrange(1, 6))

            def some(table):
                values = {"number": [0, 1, 2, 5], "text": ["", "a", "east"]}
                rows = [tuple(chance.choice(values[kind]) for _, kind in TABLES[table]) for _ in range(chance.randrange(5))]
                return Content(TABLES[table], rows)

            day = chance.choice([0, 1, 3, 40])
            old = {part: some(part[0]) for part in needs_of(code, day)}
            new = {part: some(part[0]) if chance.random() < 0.4 else there for part, there in old.items()}
            changes = {part: Difference(old[part], new[part]) for part in old if new[part] != old[part] or chance.random() < 0.3}
            wanted = Difference(computed(code, day, old), computed(code, day, new))
            self.assertEqual(pass_through(code, day, TABLES, old, changes), wanted)
            changed += len(wanted) > 0
        self.assertGreater(changed, 100)


if __name__ == "__main__":
    unittest.main()
