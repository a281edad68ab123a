"""Computing from scratch: [9], and of [3] (l) and (n) what speaks of it."""

import random
import sys
import unittest

from backfilled.checks import columns_of, needs_of
from backfilled.codes import parse, show
from backfilled.contents import Content
from backfilled.errors import BadCode, BadDay, BadMoment, BadText, UnknownTable
from backfilled.logs import Log
from backfilled.truth import evaluate, from_scratch, scratch_answer
from tests_support import ODD_VALUES, ValidCodes, fields_of, naive_columns, naive_rows

S, N = "text", "number"
TABLES = {
    "t": [("shop", S), ("amount", N)],
    "u": [("amount", N), ("shop", S)],
    "v": [("shop", S), ("city", S)],
    "w": [("shop", S), ("amount", N), ("n", N)],
    "d": [("day", N), ("shop", S)],
}
ROWS = {
    ("t", 4): [("east", 5), ("east", -7), ("west", 0), ("", 5)],
    ("t", 3): [("east", 5), ("north", 1)],
    ("t", 0): [("south", 9)],
    ("u", 4): [(5, "east"), (1, "west"), (0, "west")],
    ("v", 4): [("east", "york"), ("east", "bath"), ("north", "york"), ("", "")],
    ("w", 4): [("east", 5, 1), ("east", 5, 2), ("east", 6, 3), ("west", 0, 4)],
    ("d", 4): [(4, "east"), (3, "east"), (3, "north")],
}


class EvaluateTest(unittest.TestCase):
    def read(self, table, day):
        self.calls.append((table, day))
        return Content(TABLES[table], ROWS.get((table, day), []))

    def run_code(self, text, day=4):
        self.calls = []
        code = parse(text)
        content = evaluate(code, day, TABLES, self.read)
        self.assertEqual(self.calls, needs_of(code, day))
        self.assertEqual(content.columns, columns_of(code, TABLES))
        return content

    def gives(self, text, *rows, day=4):
        with self.subTest(text=text):
            self.assertEqual(self.run_code(text, day).rows, sorted(rows))

    def test_sources(self):
        self.gives("t", *ROWS["t", 4])
        self.gives("t - 1", *ROWS["t", 3])
        self.gives("t - 4", *ROWS["t", 0])
        self.gives("t - 5")
        self.gives("t - 30")
        self.gives("t", day=7)
        self.gives("(t - 2)")
        self.assertEqual(self.run_code("t - 5").columns, TABLES["t"])

    def test_last(self):
        self.gives("t last 1", *[(4, *row) for row in ROWS["t", 4]])
        both = [(4, *row) for row in ROWS["t", 4]] + [(3, *row) for row in ROWS["t", 3]]
        self.gives("t last 2", *both)
        self.gives("t last 4", *both)
        self.gives("t last 30", *both, (0, "south", 9))
        self.gives("t last 5", *both, (0, "south", 9))
        self.gives("t last 3", (0, "south", 9), day=0)
        self.gives("t last 3 | where day = today", *[(4, *row) for row in ROWS["t", 4]])
        self.gives("t last 2 | join d", *[(day, shop, amount) for day, shop, amount in both
                                          if (day, shop) in ROWS["d", 4]])

    def test_where(self):
        self.gives("t | where shop = 'east'", ("east", 5), ("east", -7))
        self.gives("t | where amount < 0", ("east", -7))
        self.gives("t | where amount <= 0", ("east", -7), ("west", 0))
        self.gives("t | where not amount <= 0", ("east", 5), ("", 5))
        self.gives("t | where shop < 'east'", ("", 5))
        self.gives("t | where 'east' < shop", ("west", 0))
        self.gives("t | where amount = today + 1 and not shop = ''", ("east", 5))
        self.gives("t | where amount = 0 or amount = -7", ("west", 0), ("east", -7))
        self.gives("t | where amount = 0 or amount = 5 and shop = ''", ("west", 0), ("", 5))
        self.gives("t | where [amount = 0 or amount = 5] and shop = ''", ("", 5))
        self.gives("t | where 1 = 1", *ROWS["t", 4])
        self.gives("t | where 1 = 2")
        self.gives("t | where today = 4", *ROWS["t", 4])
        self.gives("t | where amount - amount * 2 - 1 = -6", ("east", 5), ("", 5))
        self.gives("t | where '10' < '9'", *ROWS["t", 4])
        self.gives("t | where 10 < 9")
        self.gives("t - 5 | where amount = 1")

    def test_with(self):
        self.gives("t | with x = amount * amount - today", ("east", 5, 21), ("east", -7, 45), ("west", 0, -4), ("", 5, 21))
        self.gives("t | with x = shop | keep x", ("east",), ("west",), ("",))
        self.gives("t | with x = 'a b' | keep x", ("a b",))
        self.gives("t - 1 | with x = -3 - 2 - 1 | keep x", (-6,))
        self.gives("t - 1 | with x = -3 - (2 - 1) * -2 | keep x", (-1,))
        self.gives("t - 1 | with x = " + "9" * 20 + " * " + "9" * 20 + " | keep x", (int("9" * 20) ** 2,))
        self.gives("t - 5 | with x = 1")

    def test_keep_and_rename(self):
        self.gives("t | keep shop", ("east",), ("west",), ("",))
        self.gives("t | keep amount shop", *[(amount, shop) for shop, amount in ROWS["t", 4]])
        self.gives("t | keep amount", (5,), (-7,), (0,))
        self.gives("t | rename shop place", *ROWS["t", 4])
        self.gives("t | rename shop place | rename amount shop | keep shop", (5,), (-7,), (0,))
        self.gives("t - 5 | keep shop")
        self.gives("t - 5 | rename shop place")

    def test_join(self):
        self.gives("t | join v", ("east", 5, "york"), ("east", 5, "bath"), ("east", -7, "york"), ("east", -7, "bath"),
                   ("", 5, ""))
        self.gives("v | join t", ("east", "york", 5), ("east", "bath", 5), ("east", "york", -7), ("east", "bath", -7),
                   ("", "", 5))
        self.gives("t | join u", ("east", 5), ("west", 0))
        self.gives("t | join w", ("east", 5, 1), ("east", 5, 2), ("west", 0, 4))
        self.gives("u | join w", (5, "east", 1), (5, "east", 2), (0, "west", 4))
        self.gives("t | join t - 1", ("east", 5))
        self.gives("t | join t", *ROWS["t", 4])
        self.gives("t | join v - 1")
        self.gives("t - 5 | join v")

    def test_union_and_minus(self):
        self.gives("t | union u", *ROWS["t", 4], ("west", 1))
        self.gives("u | union t", *ROWS["u", 4], (-7, "east"), (5, ""))
        self.gives("t | minus u", ("east", -7), ("", 5))
        self.gives("u | minus t", (1, "west"))
        self.gives("t | minus t")
        self.gives("t | union t", *ROWS["t", 4])
        self.gives("t - 5 | union u", *[(shop, amount) for amount, shop in ROWS["u", 4]])
        self.gives("t | union u - 9", *ROWS["t", 4])
        self.gives("t - 5 | minus u")
        self.gives("t | minus u - 9", *ROWS["t", 4])

    def test_group(self):
        self.gives("t | group: n = count", (4,))
        self.gives("t | group: x = sum amount, y = least amount, z = greatest amount, n = count", (3, -7, 5, 4))
        self.gives("t | group shop: x = sum amount, n = count", ("east", -2, 2), ("west", 0, 1), ("", 5, 1))
        self.gives("t | group: x = least shop, y = greatest shop", ("", "west"))
        self.gives("t | group amount shop: n = count", *[(amount, shop, 1) for shop, amount in ROWS["t", 4]])
        self.gives("t | group shop: amount = greatest amount", ("east", 5), ("west", 0), ("", 5))
        self.gives("t | keep amount | group: x = sum amount, n = count", (-2, 3))
        self.gives("t - 5 | group: n = count")
        self.gives("t - 5 | group shop: n = count")
        self.gives("t | union t | group: n = count", (4,))

    def test_today(self):
        self.gives("t | with x = today | keep x", (4,))
        self.gives("t - 3 | with x = today | keep x", (3,), day=3)
        self.gives("t - 3 | where today = 0", day=3)
        self.gives("t last 9 | where day + 1 = today", *[(3, *row) for row in ROWS["t", 3]])

    def test_large_numbers(self):
        big = 10 ** 39
        tables = {"t": [("n", N)]}
        rows = Content(tables["t"], [(big,), (-big,), (big - 1,), (0,)])
        found = evaluate(parse("t | where 0 < n | group: x = sum n, y = least n"), 0, tables, lambda table, day: rows)
        self.assertEqual(found.rows, [(2 * big - 1, big - 1)])

    def test_by_name(self):
        found = evaluate(code=("table", "t", 0), day=0, tables={"t": [("n", N)]},
                         read=lambda table, day: Content([("n", N)], [(1,)]))
        self.assertEqual(found.rows, [(1,)])

    def test_reads_each_need_once_in_order(self):
        for text in ["t | join t | union t - 1 | minus (t last 3 | keep shop amount)", "v | join (t - 1 | join u | keep shop)",
                     "t last 5 | join t", "t - 9", "t last 30"]:
            self.run_code(text)
        self.run_code("t last 3 | union t last 5")
        self.assertEqual(self.calls, [("t", 2), ("t", 3), ("t", 4), ("t", 0), ("t", 1)])

    def test_bad_code_comes_ahead_of_reading(self):
        self.calls = []
        for text, part in [("t | keep none", "t | keep none"), ("t | join none | keep x", "none"),
                           ("t | union (t last 2 | keep a | keep b)", "t last 2 | keep a"), ("d last 2", "d last 2")]:
            found = fields_of(self, BadCode, evaluate, parse(text), 4, TABLES, self.read)
            self.assertEqual(found, {"part": parse(part)})
        self.assertEqual(self.calls, [])

    def test_arguments_stay_and_results_are_new(self):
        tables = {name: list(columns) for name, columns in TABLES.items()}
        self.calls = []
        code = parse("t | union u")
        content = evaluate(code, 4, tables, self.read)
        self.assertEqual((code, tables), (parse("t | union u"), TABLES))
        tables["t"].clear()
        self.assertEqual((content.columns, len(content)), (TABLES["t"], 5))

    def test_deep_codes(self):
        code, condition = ("table", "t", 0), ("<", 0, ("column", "amount"))
        for _ in range(1500):
            code = ("where", ("union", ("table", "t", 0), code), ("=", 1, 1))
            condition = ("and", ("=", 1, 1), ("or", condition, ("=", 1, 2)))
        self.calls = []
        content = evaluate(("where", code, condition), 4, TABLES, self.read)
        self.assertEqual((content.rows, self.calls), ([("", 5), ("east", 5)], [("t", 4)]))

    def test_naive_evaluator(self):
        codes = ValidCodes(51, TABLES)
        chance = codes.random
        filled = 0
        for turn in range(1500):
            if turn % 30 == 0:
                contents = {}
                for name, columns in TABLES.items():
                    for day in range(5):
                        rows = [tuple(chance.choice(["", "a", "b", "east"]) if kind == S else chance.randrange(-2, 5)
                                      for _, kind in columns) for _ in range(chance.randrange(5))]
                        contents[name, day] = Content(columns, rows)
            code = codes.code_of(chance.randrange(1, 5))
            day = chance.randrange(5)
            names = list(naive_columns(code, TABLES))
            expected = naive_rows(code, day, lambda name, on: [
                dict(zip([column for column, _ in TABLES[name]], row)) for row in contents[name, on].rows])
            found = evaluate(code, day, TABLES, lambda name, on: contents[name, on])
            self.assertEqual(found.rows, sorted(tuple(row[name] for name in names) for row in expected), show(code))
            self.assertEqual(found.columns, list(naive_columns(code, TABLES).items()))
            filled += bool(found)
        self.assertGreater(filled, 400)


def sales_log():
    log = Log()
    log.add_table("sales", [("shop", S), ("amount", N)])
    log.put("sales", 0, ("east", 5))
    log.put("sales", 1, ("east", 7))
    log.put("sales", 1, ("west", 1))
    log.set_code("totals", "sales | group: total = sum amount")
    log.set_code("trend", "totals last 2 | group: total = sum total, days = count")
    return log


class ScratchTest(unittest.TestCase):
    def setUp(self):
        self.log = sales_log()

    def tearDown(self):
        self.assertEqual(self.log.entries()[:6], sales_log().entries())

    def test_document(self):
        self.assertEqual(from_scratch(self.log, "trend", 1).rows, [(13, 2)])
        found = fields_of(self, BadText, scratch_answer, self.log, "sales minus (sales - 1)", 1)
        self.assertEqual(found, {"at": 6})
        found = scratch_answer(self.log, "sales | minus (sales - 1 | where amount = 5)", 1, 4)
        self.assertEqual(found.rows, [("east", 7), ("west", 1)])

    def test_by_name(self):
        self.assertEqual(from_scratch(log=self.log, table="trend", day=0, moment=6).rows, [(5, 1)])
        self.assertEqual(scratch_answer(log=self.log, question="sales", day=0, moment=2).rows, [("east", 5)])

    def test_all_moments(self):
        log = self.log
        log.put("sales", 1, ("west", 4))
        log.delete("sales", 0, ("east",))
        log.set_code("totals", "sales | group: total = greatest amount", 1)
        sales = [[], [("east", 7)], [("east", 7), ("west", 1)], [("east", 7), ("west", 1)], [("east", 7), ("west", 1)],
                 [("east", 7), ("west", 4)], [("east", 7), ("west", 4)], [("east", 7), ("west", 4)]]
        self.assertEqual([from_scratch(log, "sales", 1, moment).rows for moment in range(2, 10)], sales)
        totals = [[(8,)], [(8,)], [(11,)], [(11,)], [(7,)]]
        self.assertEqual([from_scratch(log, "totals", 1, moment).rows for moment in range(5, 10)], totals)
        trend = [[(13, 2)], [(16, 2)], [(11, 1)], [(7, 1)]]
        self.assertEqual([from_scratch(log, "trend", 1, moment).rows for moment in range(6, 10)], trend)
        asked = [scratch_answer(log, "trend | keep total", 1, moment).rows for moment in range(6, 10)]
        self.assertEqual(asked, [[(13,)], [(16,)], [(11,)], [(7,)]])
        asked = [scratch_answer(log, "sales | keep amount", 0, moment).rows for moment in range(1, 10)]
        self.assertEqual(asked, [[]] + [[(5,)]] * 6 + [[]] * 2)
        self.assertEqual(from_scratch(log, "trend", 1), from_scratch(log, "trend", 1, None))

    def test_days_without_rows(self):
        for day in (2, 3, 999):
            self.assertEqual(from_scratch(self.log, "sales", day).rows, [])
            self.assertEqual(from_scratch(self.log, "totals", day).columns, [("total", N)])
        self.assertEqual((from_scratch(self.log, "trend", 2).rows, from_scratch(self.log, "trend", 3).rows), ([(8, 1)], []))

    def test_days_on_which_no_code_holds(self):
        log = self.log
        log.set_code("late", "sales | keep shop", 1)
        log.set_code("later", "late - 1 | union late")
        self.assertEqual((from_scratch(log, "late", 0).rows, from_scratch(log, "late", 0).columns), ([], [("shop", S)]))
        self.assertEqual((from_scratch(log, "late", 1).rows, from_scratch(log, "later", 0).rows), ([("east",), ("west",)], []))
        self.assertEqual(scratch_answer(log, "late - 1", 2).rows, [("east",), ("west",)])
        self.assertEqual(scratch_answer(log, "late - 1", 1).rows, [])

    def test_errors_of_from_scratch(self):
        log = self.log
        for moment in [*[value for value in ODD_VALUES if value is not None], -1, 7]:
            self.assertEqual(fields_of(self, BadMoment, from_scratch, log, "none", -1, moment), {"moment": moment})
        for table in [*ODD_VALUES, "none", "last", ""]:
            self.assertEqual(fields_of(self, UnknownTable, from_scratch, log, table, -1), {"name": table})
        self.assertEqual(fields_of(self, UnknownTable, from_scratch, log, "trend", -1, 5), {"name": "trend"})
        self.assertEqual(fields_of(self, UnknownTable, from_scratch, log, "sales", 0, 0), {"name": "sales"})
        for day in [*ODD_VALUES, -1, 1000, "1"]:
            for table in ("sales", "totals"):
                self.assertEqual(fields_of(self, BadDay, from_scratch, log, table, day), {"value": day})

    def test_errors_of_scratch_answer(self):
        log = self.log
        for moment in [*[value for value in ODD_VALUES if value is not None], -1, 7]:
            self.assertEqual(fields_of(self, BadMoment, scratch_answer, log, "!", -1, moment), {"moment": moment})
        for question in ODD_VALUES:
            self.assertEqual(fields_of(self, BadText, scratch_answer, log, question, -1), {"at": None})
        self.assertEqual(fields_of(self, BadText, scratch_answer, log, "sales |", -1, 0), {"at": 7})
        found = fields_of(self, BadCode, scratch_answer, log, "sales | keep none", -1)
        self.assertEqual(found, {"part": parse("sales | keep none")})
        found = fields_of(self, BadCode, scratch_answer, log, "sales | join trend", -1, 5)
        self.assertEqual(found, {"part": parse("trend")})
        self.assertEqual(fields_of(self, BadCode, scratch_answer, log, "sales", 0, 0), {"part": parse("sales")})
        for day in [*ODD_VALUES, -1, 1000, "1"]:
            self.assertEqual(fields_of(self, BadDay, scratch_answer, log, "sales", day), {"value": day})

    def test_a_chain_through_all_days(self):
        log = self.log
        log.set_code("run", "sales | keep amount")
        log.set_code("run", "run - 1 | union (sales | keep amount) | group: amount = sum amount")
        log.put("sales", 998, ("west", 100))
        room = sys.getrecursionlimit()
        depth, frame = 0, sys._getframe()
        while frame:
            depth, frame = depth + 1, frame.f_back
        sys.setrecursionlimit(depth + 60)
        try:
            found = [from_scratch(log, "run", day).rows for day in (0, 1, 500, 998, 999)]
            asked = scratch_answer(log, "run | where amount = 113", 999).rows
        finally:
            sys.setrecursionlimit(room)
        self.assertEqual(found, [[(5,)], [(13,)], [(13,)], [(113,)], [(113,)]])
        self.assertEqual(asked, [(113,)])

    def test_a_chain_through_all_tables(self):
        log = Log()
        log.add_table("t", [("n", N)])
        log.put("t", 0, (1,))
        names = ["c" + letter for letter in "abcdefghijklmnopqrs"]
        for name, ahead in zip(names, ["t", *names]):
            log.set_code(name, ahead)
        log.set_code("ca", "t | union cs - 1")
        self.assertEqual([from_scratch(log, "cs", 40, moment).rows for moment in (21, 22)], [[], [(1,)]])

    def test_last_days_upon_last_days(self):
        log = Log()
        log.add_table("t", [("n", N)])
        log.put("t", 0, (1,))
        log.set_code("u", "t")
        log.set_code("u", "t | union (t last 30 | keep n) | union u - 1", 10)
        log.set_code("v", "u last 30 | group: n = count")
        self.assertEqual([from_scratch(log, "v", day).rows for day in (0, 9, 10, 39, 60)], [[(1,)], [(1,)], [(2,)], [(30,)], [(30,)]])

    def test_entries_exchanged(self):
        """[3] (l): neighbouring entries of different tables, days or keys."""
        chance = random.Random(61)
        moved = 0
        for _ in range(12):
            log = sales_log()
            log.add_table("more", [("shop", S), ("amount", N)])
            for _ in range(12):
                table, day, shop = chance.choice(["sales", "more"]), chance.randrange(3), chance.choice("ab")
                if chance.random() < 0.7:
                    log.put(table, day, (shop, chance.randrange(3)))
                else:
                    log.delete(table, day, (shop,))
            for moment in range(8, len(log)):
                one, other = log[moment], log[moment + 1]
                if one[1:3] == other[1:3] and one[3][0] == other[3][0]:
                    continue
                turned = log.copy(moment - 1)
                for entry in (other, one):
                    (turned.put if entry[0] == "put" else turned.delete)(*entry[1:])
                moved += 1
                for table in log.tables():
                    for day in range(4):
                        found = from_scratch(turned, table, day)
                        self.assertEqual(found, from_scratch(log, table, day, moment + 1))
                question = "sales last 3 | join more | union (sales | with day = today)"
                self.assertEqual(scratch_answer(turned, question, 2), scratch_answer(log, question, 2, moment + 1))
        self.assertGreater(moved, 60)

    def test_days_moved(self):
        """[3] (l): all days moved by the same number, where no code uses today or last."""
        chance = random.Random(62)
        for by in (1, 7, 900):
            log, moved = Log(), Log()
            for one in (log, moved):
                one.add_table("t", [("shop", S), ("amount", N)])
                one.set_code("u", "t")
            for text, day in [("t | union u - 1", 0), ("t | minus u - 2", 2), ("u - 1 | group shop: amount = count", 4)]:
                log.set_code("u", text, day)
                moved.set_code("u", text, day + by if day else 0)
            for _ in range(15):
                day, row = chance.randrange(6), (chance.choice("ab"), chance.randrange(3))
                log.put("t", day, row)
                moved.put("t", day + by, row)
            for moment in range(1, len(log) + 1):
                for table in log.tables(moment):
                    for day in range(6):
                        found = from_scratch(moved, table, day + by, moment)
                        self.assertEqual(found, from_scratch(log, table, day, moment))

    def test_random_logs(self):
        """Codes upon codes, at all moments, against a naive reader that calls itself."""
        columns = [("shop", S), ("amount", N)]
        for seed in range(6):
            codes = ValidCodes(70 + seed, {"t": columns})
            chance = codes.random
            log = Log()
            log.add_table("t", columns)
            for name in ("a", "b", "c"):
                codes.tables = log.tables()
                code = codes.code_of(2)
                while len(show(code)) > 600:
                    code = codes.code_of(2)
                log.set_code(name, show(code))
                for _ in range(4):
                    log.put("t", chance.randrange(4), (chance.choice(["a", "b", "east"]), chance.randrange(-1, 3)))
            for moment in range(1, len(log) + 1):
                for table in log.tables(moment):
                    for day in range(5):
                        names = [name for name, _ in log.columns_at(table, moment)]
                        rows = [tuple(row[name] for name in names) for row in naive_partition(log, table, day, moment)]
                        self.assertEqual(from_scratch(log, table, day, moment).rows, sorted(rows))


def naive_partition(log, table, day, moment):
    """The rows of a partition as dicts, by calls within one another."""
    if log.is_raw(table, moment):
        names = [name for name, _ in log.columns_at(table, moment)]
        return [dict(zip(names, row)) for row in log.raw(table, day, moment).rows]
    code = log.code_at(table, day, moment)
    if code is None:
        return []
    return naive_rows(parse(code), day, lambda name, on: naive_partition(log, name, on, moment))


if __name__ == "__main__":
    unittest.main()
