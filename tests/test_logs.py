"""Logs: [5], apart from what makes codes valid."""

import random
import unittest

from backfilled.errors import (
    BadColumns, BadDay, BadMoment, BadName, BadNumber, BadRow, LimitExceeded, NameTaken, UnknownTable,
)
from backfilled.logs import Log
from tests_support import ODD_VALUES, WORDS, fields_of

COLUMNS = [("shop", "text"), ("amount", "number")]
BAD_NAMES = [*ODD_VALUES, "", "A", "abcdefghi", "a1", *WORDS]
BAD_DAYS = [*ODD_VALUES, -1, 1000, "1"]
# None stands for the last moment.
BAD_MOMENTS = [*[value for value in ODD_VALUES if value is not None], -1, "1", 10 ** 30]


def small_log():
    log = Log()
    log.add_table("sales", COLUMNS)
    log.put("sales", 3, ("east", 5))
    log.put("sales", 3, ("east", 7))
    log.put("sales", 3, ("west", 1))
    log.delete("sales", 3, ("east",))
    log.put("sales", 1, ("east", 2))
    log.set_code("big", "sales|where 3<amount")
    log.set_code("big", "sales|where 4<amount", 2)
    return log


class EntriesTest(unittest.TestCase):
    def test_document(self):
        log = Log()
        self.assertEqual(log.add_table("sales", COLUMNS), 1)
        self.assertEqual((log.put("sales", 3, ("east", 5)), log.put("sales", 3, ("east", 7))), (2, 3))
        found = (log.raw("sales", 3).rows, log.raw("sales", 3, 2).rows, len(log.raw("sales", 4)))
        self.assertEqual(found, ([("east", 7)], [("east", 5)], 0))
        self.assertEqual(log[2], ("put", "sales", 3, ("east", 5)))
        self.assertEqual(fields_of(self, BadRow, log.put, "sales", 3, ("east",)), {"value": ("east",)})

    def test_new_log(self):
        log = Log()
        self.assertEqual((len(log), log.entries(), log.tables(), log.last_day()), (0, [], {}, None))
        self.assertEqual((log.tables(0), log.last_day(0), log.copy(0) == log), ({}, None, True))

    def test_entries(self):
        log = small_log()
        entries = [
            ("table", "sales", COLUMNS, 1), ("put", "sales", 3, ("east", 5)), ("put", "sales", 3, ("east", 7)),
            ("put", "sales", 3, ("west", 1)), ("delete", "sales", 3, ("east",)), ("put", "sales", 1, ("east", 2)),
            ("code", "big", "sales | where 3 < amount", 0), ("code", "big", "sales | where 4 < amount", 2),
        ]
        self.assertEqual((log.entries(), len(log)), (entries, 8))
        self.assertEqual([log[moment] for moment in range(1, 9)], entries)
        for entry in log.entries():
            self.assertIs(type(entry), tuple)

    def test_moments_are_returned(self):
        log = Log()
        self.assertEqual(log.add_table("t", COLUMNS), 1)
        self.assertEqual(log.set_code("u", "t"), 2)
        self.assertEqual(log.put("t", 0, ("a", 1)), 3)
        self.assertEqual(log.delete("t", 0, ("a",)), 4)
        self.assertEqual(log.delete("t", 0, ("a",)), 5)
        self.assertEqual(log.add_table("v", COLUMNS, 2), 6)

    def test_by_name(self):
        log = Log()
        log.add_table(name="t", columns=COLUMNS, keys=2)
        log.put(table="t", day=0, row=("a", 1))
        log.delete(table="t", day=0, key=("a", 1))
        log.set_code(table="u", text="t", day=4)
        self.assertEqual(log.entries(), [("table", "t", COLUMNS, 2), ("put", "t", 0, ("a", 1)),
                                         ("delete", "t", 0, ("a", 1)), ("code", "u", "t", 4)])
        self.assertEqual((log.tables(moment=1), log.is_raw(table="t", moment=1)), ({"t": COLUMNS}, True))
        self.assertEqual(log.columns_at(table="t", moment=1), COLUMNS)
        self.assertEqual(log.raw(table="t", day=0, moment=2).rows, [("a", 1)])
        self.assertEqual(log.code_at(table="u", day=4, moment=4), "t")
        self.assertEqual(log.code_moment(table="u", day=4, moment=4), 4)
        self.assertEqual((log.last_day(moment=1), len(log.copy(moment=1))), (None, 1))

    def test_single_entries_by_bad_moments(self):
        log = small_log()
        for moment in [*ODD_VALUES, 0, -1, 9, "1", slice(1, 2)]:
            self.assertIs(fields_of(self, BadMoment, lambda: log[moment])["moment"], moment)
        self.assertEqual(fields_of(self, BadMoment, lambda: Log()[1]), {"moment": 1})

    def test_not_iterated(self):
        for call in (iter, list):
            with self.assertRaises(TypeError):
                call(small_log())

    def test_tables(self):
        log = small_log()
        log.add_table("aaa", [("n", "number")])
        big = {"sales": COLUMNS, "big": COLUMNS}
        self.assertEqual([log.tables(moment) for moment in (0, 1, 6, 7, 8)],
                         [{}, {"sales": COLUMNS}, {"sales": COLUMNS}, big, big])
        self.assertEqual(list(log.tables()), ["sales", "big", "aaa"])
        self.assertEqual(log.tables(), log.tables(None))
        self.assertEqual(list(log.tables().values()), [COLUMNS, COLUMNS, [("n", "number")]])

    def test_kinds_and_columns(self):
        log = small_log()
        for moment in range(1, 9):
            self.assertIs(log.is_raw("sales", moment), True)
            self.assertEqual(log.columns_at("sales", moment), COLUMNS)
        self.assertIs(log.is_raw("big"), False)
        self.assertIs(log.is_raw("big", 7), False)
        self.assertEqual(log.columns_at("big", 7), COLUMNS)
        for call in (log.is_raw, log.columns_at):
            self.assertEqual(fields_of(self, UnknownTable, call, "big", 6), {"name": "big"})
            self.assertEqual(fields_of(self, UnknownTable, call, "sales", 0), {"name": "sales"})

    def test_raw(self):
        log = small_log()
        rows = [[], [("east", 5)], [("east", 7)], [("east", 7), ("west", 1)], [("west", 1)], [("west", 1)]]
        for moment in range(1, 9):
            self.assertEqual(log.raw("sales", 3, moment).rows, rows[min(moment, 6) - 1])
            self.assertEqual(log.raw("sales", 1, moment).rows, [("east", 2)] if moment >= 6 else [])
            self.assertEqual(log.raw("sales", 0, moment).columns, COLUMNS)
        self.assertEqual(log.raw("sales", 3), log.raw("sales", 3, None))

    def test_keys(self):
        log = Log()
        columns = [("a", "number"), ("b", "text"), ("c", "number")]
        log.add_table("one", columns)
        log.add_table("two", columns, 2)
        log.add_table("three", columns, 3)
        for name in ("one", "two", "three"):
            for row in [(1, "x", 1), (1, "x", 2), (1, "y", 3), (2, "x", 4), (1, "y", 3)]:
                log.put(name, 999, row)
        self.assertEqual(log.raw("one", 999).rows, [(1, "y", 3), (2, "x", 4)])
        self.assertEqual(log.raw("two", 999).rows, [(1, "x", 2), (1, "y", 3), (2, "x", 4)])
        self.assertEqual(log.raw("three", 999).rows, [(1, "x", 1), (1, "x", 2), (1, "y", 3), (2, "x", 4)])
        log.delete("one", 999, (1,))
        log.delete("two", 999, (1, "x"))
        log.delete("three", 999, (1, "x", 2))
        log.delete("three", 999, (1, "x", 3))
        log.delete("three", 998, (1, "x", 1))
        self.assertEqual(log.raw("one", 999).rows, [(2, "x", 4)])
        self.assertEqual(log.raw("two", 999).rows, [(1, "y", 3), (2, "x", 4)])
        self.assertEqual(log.raw("three", 999).rows, [(1, "x", 1), (1, "y", 3), (2, "x", 4)])

    def test_a_deleted_row_may_be_put_again(self):
        log = Log()
        log.add_table("t", COLUMNS)
        log.delete("t", 0, ("a",))
        log.put("t", 0, ("a", 1))
        log.delete("t", 0, ("a",))
        log.delete("t", 0, ("a",))
        log.put("t", 0, ("a", 2))
        self.assertEqual([log.raw("t", 0, moment).rows for moment in range(1, 7)],
                         [[], [], [("a", 1)], [], [], [("a", 2)]])

    def test_last_day(self):
        log = Log()
        log.add_table("t", COLUMNS)
        for day in (4, 2, 9, 9, 3):
            log.put("t", day, ("a", 1))
        log.delete("t", 20, ("a",))
        log.delete("t", 9, ("a",))
        log.set_code("u", "t", 30)
        self.assertEqual([log.last_day(moment) for moment in range(10)], [None, None, 4, 4, 9, 9, 9, 9, 9, 9])
        self.assertEqual(log.last_day(), 9)
        log.put("t", 0, ("a", 1))
        self.assertEqual((log.last_day(), Log().last_day()), (9, None))

    def test_codes_by_days_and_moments(self):
        log = Log()
        log.add_table("t", COLUMNS)
        texts = [("t | where amount = 1", 5), ("t | where amount = 2", 9), ("t | where amount = 3", 3), ("t", 9), ("t", 0)]
        for text, day in texts:
            log.set_code("u", text, day)
        for moment in range(2, 7):
            for day in (0, 2, 3, 4, 5, 8, 9, 999):
                holding = [at for at in range(2, moment + 1) if texts[at - 2][1] <= day]
                last = holding[-1] if holding else None
                self.assertEqual(log.code_moment("u", day, moment), last)
                self.assertEqual(log.code_at("u", day, moment), texts[last - 2][0] if last else None)
        self.assertEqual((log.code_at("u", 4), log.code_moment("u", 4)), ("t", 6))

    def test_codes_are_shown(self):
        log = small_log()
        log.set_code("c", " ( sales ) |group:n=count ")
        self.assertEqual(log.code_at("c", 0), "sales | group: n = count")
        self.assertEqual(log[9], ("code", "c", "sales | group: n = count", 0))

    def test_copies(self):
        log = small_log()
        for moment in range(9):
            copy = log.copy(moment)
            self.assertEqual((len(copy), copy.entries()), (moment, log.entries()[:moment]))
            self.assertEqual((copy.tables(), copy.last_day()), (log.tables(moment), log.last_day(moment)))
            self.assertEqual(copy == log, moment == 8)
        self.assertEqual(log.copy(), log.copy(None))
        self.assertIsNot(log.copy(), log)
        copy = log.copy(7)
        self.assertEqual((copy.raw("sales", 3), copy.code_at("big", 3)), (log.raw("sales", 3), "sales | where 3 < amount"))

    def test_copies_are_independent(self):
        log, other = small_log(), small_log()
        copy = log.copy()
        copy.put("sales", 5, ("east", 9))
        copy.set_code("big", "sales", 0)
        copy.delete("sales", 1, ("east",))
        copy.add_table("more", COLUMNS)
        self.assertEqual((log, len(log), log.last_day()), (other, 8, 3))
        self.assertEqual((log.raw("sales", 1).rows, log.raw("sales", 5).rows, log.code_moment("big", 0)), ([("east", 2)], [], 7))
        self.assertEqual(list(log.tables()), ["sales", "big"])
        second = log.copy()
        log.put("sales", 5, ("west", 9))
        log.set_code("big", "sales | where 9 < amount", 1)
        log.set_code("next", "big")
        self.assertEqual((second, len(copy)), (other, 12))
        self.assertEqual(second.code_at("big", 1), "sales | where 3 < amount")
        self.assertEqual(second.set_code("big", "sales", 9), 9)

    def test_equality(self):
        log = small_log()
        self.assertEqual(log, small_log())
        self.assertNotEqual(log, log.copy(7))
        longer = small_log()
        longer.delete("sales", 0, ("zzz",))
        self.assertNotEqual(log, longer)
        (one, other, third) = (Log(), Log(), Log())
        one.add_table("t", COLUMNS)
        other.add_table("t", COLUMNS, 2)
        third.add_table("t", COLUMNS[::-1])
        self.assertNotEqual(one, other)
        self.assertNotEqual(one, third)
        one.set_code("u", "( t )")
        again = Log()
        again.add_table("t", COLUMNS)
        again.set_code("u", "t")
        self.assertEqual(one, again)
        for value in [*ODD_VALUES, log.entries()]:
            self.assertFalse(log == value)

    def test_lists_are_new_and_not_kept(self):
        log = Log()
        columns = list(COLUMNS)
        log.add_table("t", columns)
        log.set_code("u", "t")
        self.assertEqual(columns, COLUMNS)
        columns.clear()
        log[1][2].clear()
        log.entries()[0][2].clear()
        log.entries().clear()
        log.tables()["t"].clear()
        log.tables()["u"].clear()
        log.tables().clear()
        log.columns_at("t").clear()
        log.columns_at("u").append(1)
        log.raw("t", 0).columns.clear()
        log.copy()[1][2].clear()
        self.assertEqual(log.entries(), [("table", "t", COLUMNS, 1), ("code", "u", "t", 0)])
        self.assertEqual((log.tables(), log.columns_at("u")), ({"t": COLUMNS, "u": COLUMNS}, COLUMNS))
        found = (log.tables(), log.entries(), log[1], log.columns_at("t"))
        log.put("t", 0, ("a", 1))
        log.add_table("v", COLUMNS)
        expected = [("table", "t", COLUMNS, 1), ("code", "u", "t", 0)]
        self.assertEqual(found, ({"t": COLUMNS, "u": COLUMNS}, expected, expected[0], COLUMNS))

    def test_random_logs_against_replaying(self):
        chance = random.Random(41)
        for turn in range(15):
            log = Log()
            log.add_table("t", COLUMNS, 1 + turn % 2)
            log.add_table("s", COLUMNS, 2 - turn % 2)
            entries = log.entries()
            keys = {entry[1]: entry[3] for entry in entries}
            for _ in range(40):
                table, day, shop, amount = chance.choice("st"), chance.randrange(3), chance.choice("ab"), chance.randrange(3)
                if chance.random() < 0.7:
                    entries.append(("put", table, day, (shop, amount)))
                    log.put(*entries[-1][1:])
                else:
                    entries.append(("delete", table, day, (shop, amount)[:keys[table]]))
                    log.delete(*entries[-1][1:])
            self.assertEqual(log.entries(), entries)
            for moment in range(2, len(log) + 1):
                for table in "st":
                    for day in range(3):
                        rows = {}
                        for entry in entries[2:moment]:
                            if entry[1:3] == (table, day):
                                rows.pop(entry[3][:keys[table]], None)
                                if entry[0] == "put":
                                    rows[entry[3][:keys[table]]] = entry[3]
                        self.assertEqual(log.raw(table, day, moment).rows, sorted(rows.values()))


class ErrorsTest(unittest.TestCase):
    def setUp(self):
        self.log = small_log()

    def tearDown(self):
        self.assertEqual(self.log, small_log())

    def refuses(self, error, call, *values):
        """The call raises this error with its last value, and changes nothing."""
        *given, told = values
        found = list(fields_of(self, error, call, *given).values())
        self.assertEqual(found, [told])
        self.assertIs(type(found[0]), type(told))

    def test_add_table(self):
        add = self.log.add_table
        for name in BAD_NAMES:
            self.refuses(BadName, add, name, COLUMNS, name)
        for name in ("sales", "big"):
            self.refuses(NameTaken, add, name, COLUMNS, name)
        for columns in [*ODD_VALUES, tuple(COLUMNS), COLUMNS * 2, [("Shop", "text")]]:
            self.refuses(BadColumns, add, "t", columns, columns)
        for keys in [*ODD_VALUES, 0, -1, 3, "1"]:
            self.refuses(BadNumber, add, "t", COLUMNS, keys, keys)
        self.refuses(BadNumber, add, "t", [("n", "number")], 2, 2)
        self.assertEqual(self.log.copy().add_table("t", COLUMNS, 2), 9)

    def test_add_table_order(self):
        add = self.log.add_table
        self.refuses(BadName, add, "last", [], 0, "last")
        self.refuses(NameTaken, add, "big", [], 0, "big")
        self.refuses(BadColumns, add, "t", [], 0, [])
        self.refuses(BadNumber, add, "t", COLUMNS, 0, 0)

    def test_put(self):
        put = self.log.put
        for table in [*BAD_NAMES, "none", "big"]:
            self.refuses(UnknownTable, put, table, 0, ("a", 1), table)
        for day in BAD_DAYS:
            self.refuses(BadDay, put, "sales", day, ("a", 1), day)
        for row in [*ODD_VALUES, ("a",), ("a", 1, 1), ["a", 1], (1, "a"), ("a", True), ("A", 1), ("a" * 21, 1)]:
            self.refuses(BadRow, put, "sales", 0, row, row)
        self.refuses(UnknownTable, put, "big", -1, (), "big")
        self.refuses(BadDay, put, "sales", -1, (), -1)
        other = self.log.copy()
        self.assertEqual((other.put("sales", 0, ("", -1)), other.put("sales", 999, ("a" * 20, 10 ** 39))), (9, 10))

    def test_delete(self):
        delete = self.log.delete
        for table in [*BAD_NAMES, "none", "big"]:
            self.refuses(UnknownTable, delete, table, 0, ("a",), table)
        for day in BAD_DAYS:
            self.refuses(BadDay, delete, "sales", day, ("a",), day)
        for key in [*[value for value in ODD_VALUES if value != ("a",)], ("a", 1), ["a"], (1,), "a", ("A",), (True,)]:
            self.refuses(BadRow, delete, "sales", 0, key, key)
        self.refuses(UnknownTable, delete, "none", -1, (), "none")
        self.refuses(BadDay, delete, "sales", 1000, (), 1000)
        other = self.log.copy()
        self.assertEqual((other.delete("sales", 0, ("a",)), other.delete("sales", 999, ("",))), (9, 10))

    def test_bad_moments(self):
        log = self.log
        for moment in [*BAD_MOMENTS, 9]:
            for call in (log.tables, log.last_day, log.copy):
                self.refuses(BadMoment, call, moment, moment)
            for call in (log.is_raw, log.columns_at):
                self.refuses(BadMoment, call, "sales", moment, moment)
                self.refuses(BadMoment, call, None, moment, moment)
            self.refuses(BadMoment, log.raw, "none", -1, moment, moment)
            for call in (log.code_at, log.code_moment):
                self.refuses(BadMoment, call, "none", -1, moment, moment)

    def test_unknown_tables(self):
        log = self.log
        for name in [*BAD_NAMES, "none"]:
            for call in (log.is_raw, log.columns_at):
                self.refuses(UnknownTable, call, name, name)
            for call in (log.raw, log.code_at, log.code_moment):
                self.refuses(UnknownTable, call, name, -1, name)
        self.refuses(UnknownTable, log.raw, "big", -1, "big")
        self.refuses(UnknownTable, log.raw, "sales", -1, 0, "sales")
        for call in (log.code_at, log.code_moment):
            self.refuses(UnknownTable, call, "sales", -1, "sales")
            self.refuses(UnknownTable, call, "big", -1, 6, "big")

    def test_bad_days(self):
        log = self.log
        for day in BAD_DAYS:
            self.refuses(BadDay, log.raw, "sales", day, day)
            self.refuses(BadDay, log.raw, "sales", day, 1, day)
            for call in (log.code_at, log.code_moment):
                self.refuses(BadDay, call, "big", day, day)
                self.refuses(BadDay, call, "big", day, 7, day)


class LimitTest(unittest.TestCase):
    def setUp(self):
        self.log = Log()
        self.names = ["t" + "abcdefghijklmnopqrst"[k] for k in range(20)]
        for name in self.names[:19]:
            self.log.add_table(name, COLUMNS)

    def test_twenty_raw_tables(self):
        self.assertEqual(self.log.add_table("last" + "x", COLUMNS), 20)
        self.full()

    def test_the_last_one_derived(self):
        self.assertEqual(self.log.set_code("derived", "ta"), 20)
        self.full()
        self.assertEqual(self.log.set_code("derived", "tb", 3), 21)

    def full(self):
        log = self.log
        self.assertEqual(len(log.tables()), 20)
        self.assertEqual(fields_of(self, LimitExceeded, log.add_table, "more", COLUMNS), {"limit": 20})
        self.assertEqual(fields_of(self, LimitExceeded, log.set_code, "more", "ta"), {"limit": 20})
        self.assertEqual(fields_of(self, NameTaken, log.add_table, "ta", COLUMNS), {"name": "ta"})
        self.assertEqual(fields_of(self, BadColumns, log.add_table, "more", []), {"value": []})
        self.assertEqual(fields_of(self, BadNumber, log.add_table, "more", COLUMNS, 0), {"value": 0})
        self.assertEqual(fields_of(self, BadDay, log.set_code, "more", "ta", -1), {"value": -1})
        self.assertEqual(fields_of(self, BadName, log.set_code, "more1", "ta", -1), {"value": "more1"})
        self.assertEqual(len(log), 20)
        self.assertEqual(log.copy(19).add_table("more", COLUMNS), 20)


if __name__ == "__main__":
    unittest.main()
