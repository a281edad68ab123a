"""Monitors: late entries, waiting partitions, and what changes concern."""

import random
import unittest

from backfilled.checks import needs_of
from backfilled.codes import parse
from backfilled.errors import BadDay, BadMoment, UnknownTable
from backfilled.logs import Log
from backfilled.monitors import Monitor
from backfilled.stores import Store
from backfilled.truth import from_scratch
from stores_support import COLUMNS, LogMaker, chain_log, sales_log
from tests_support import ODD_VALUES, fields_of


def naive_parts(log, moment):
    """The partitions of derived tables on the days of the log."""
    last = log.last_day(moment)
    tables = [name for name in log.tables(moment) if not log.is_raw(name, moment)]
    return [(table, day) for day in range(0 if last is None else last + 1) for table in tables]


def naive_needs(log, table, day):
    """All partitions that a partition needs, directly or through others."""
    code = None if log.is_raw(table) else log.code_at(table, day)
    near = [] if code is None else needs_of(parse(code), day)
    return {*near, *[far for part in near for far in naive_needs(log, *part)]}


class LateTest(unittest.TestCase):
    def setUp(self):
        self.log = Log()
        self.monitor = Monitor(Store(self.log))
        self.log.add_table("t", [("a", "number")])
        self.log.add_table("u", [("a", "number")])

    def test_nothing_is_late(self):
        self.assertEqual(Monitor(Store(Log())).late(), [])
        for day in (0, 0, 1, 5, 5):
            self.log.put("t", day, (day,))
            self.log.delete("t", day, (day,))
        self.assertEqual(self.monitor.late(), [])

    def test_puts_and_deletes(self):
        self.log.put("t", 3, (1,))
        self.log.put("t", 2, (1,))
        self.log.delete("t", 0, (1,))
        self.log.put("t", 3, (2,))
        self.log.delete("t", 4, (2,))
        self.log.put("t", 2, (1,))
        self.assertEqual(self.monitor.late(), [4, 5, 8])

    def test_only_rows_that_are_put_make_others_late(self):
        self.log.delete("t", 9, (1,))
        self.log.put("t", 1, (1,))
        self.assertEqual(self.monitor.late(), [])
        self.log.set_code("v", "t", 7)
        self.log.put("t", 0, (1,))
        self.assertEqual(self.monitor.late(), [6])

    def test_each_table_by_itself(self):
        self.log.put("t", 9, (1,))
        self.log.put("u", 1, (1,))
        self.log.delete("u", 2, (1,))
        self.log.put("u", 0, (1,))
        self.log.put("t", 8, (1,))
        self.assertEqual(self.monitor.late(), [6, 7])

    def test_lists_are_new(self):
        self.log.put("t", 1, (1,))
        self.log.put("t", 0, (1,))
        self.monitor.late().append(1)
        self.assertEqual(self.monitor.late(), [4])


class WaitingTest(unittest.TestCase):
    def test_no_days(self):
        log = Log()
        monitor = Monitor(store=Store(log))
        self.assertEqual(monitor.waiting(), {})
        log.add_table("t", COLUMNS)
        log.set_code("z", "t")
        log.set_code("b", "t last 2")
        self.assertEqual(list(monitor.waiting().items()), [("z", 0), ("b", 0)])

    def test_due_and_unknown_ones_wait(self):
        log = sales_log()
        store = Store(log)
        monitor = Monitor(store)
        self.assertEqual(list(monitor.waiting().items()), [("big", 2), ("many", 2)])
        store.compute("big", 1)
        self.assertEqual((monitor.waiting(), store.made), ({"big": 1, "many": 2}, 1))
        list(store.work())
        self.assertEqual(monitor.waiting(), {"big": 0, "many": 0})
        log.put("sales", 0, ("west", 1))
        self.assertEqual(monitor.waiting(), {"big": 1, "many": 1})
        log.put("sales", 4, ("west", 1))
        self.assertEqual(monitor.waiting(), {"big": 4, "many": 4})

    def test_days_without_a_code_do_not_wait(self):
        log = sales_log()
        log.set_code("later", "big", 1)
        self.assertEqual(Monitor(Store(log)).waiting(), {"big": 2, "many": 2, "later": 1})

    def test_against_states(self):
        for seed in range(30):
            maker = LogMaker(seed)
            store = Store(maker.grow(12))
            monitor = Monitor(store)
            for _ in range(4):
                maker.grow(2)
                for _ in zip(range(maker.random.randrange(4)), store.work()):
                    pass
                wanted = {name: 0 for name in store.log.tables() if not store.log.is_raw(name)}
                for table, day in naive_parts(store.log, None):
                    wanted[table] += store.state_at(table, day) != "fresh"
                made = store.made
                self.assertEqual(list(monitor.waiting().items()), list(wanted.items()))
                self.assertEqual(store.made, made)


class ConcernedTest(unittest.TestCase):
    def setUp(self):
        self.log = sales_log()
        self.monitor = Monitor(Store(self.log))

    def test_raw_and_derived_tables(self):
        self.assertEqual(self.monitor.concerned("sales", 0), [("big", 0), ("many", 0)])
        self.assertEqual(self.monitor.concerned("big", 1), [("many", 1)])
        self.assertEqual(self.monitor.concerned("many", 1), [])
        self.assertEqual(self.monitor.concerned(table="sales", day=1), [("big", 1), ("many", 1)])

    def test_through_last_days_and_earlier_days(self):
        self.log.put("sales", 4, ("east", 1))
        self.log.set_code("week", "big last 3")
        self.log.set_code("old", "week - 1")
        wanted = [("big", 1), ("many", 1), ("week", 1), ("week", 2), ("old", 2), ("week", 3), ("old", 3), ("old", 4)]
        self.assertEqual(self.monitor.concerned("sales", 1), wanted)
        self.assertEqual(self.monitor.concerned("week", 3), [("old", 4)])
        self.assertEqual(self.monitor.concerned("old", 3), [])

    def test_days_that_need_earlier_ones(self):
        monitor = Monitor(Store(chain_log()))
        self.assertEqual(monitor.concerned("t", 0), [("u", 0)])
        log = chain_log()
        log.put("t", 3, (1,))
        self.assertEqual(Monitor(Store(log)).concerned("u", 1), [("u", 2), ("u", 3)])
        self.assertEqual(Monitor(Store(log)).concerned("t", 1), [("u", 1), ("u", 2), ("u", 3)])

    def test_the_codes_that_hold_at_the_last_moment(self):
        self.log.set_code("big", "sales - 1 | where 3 < amount", 1)
        self.assertEqual(self.monitor.concerned("sales", 1), [])
        self.assertEqual(self.monitor.concerned("sales", 0), [("big", 0), ("many", 0), ("big", 1), ("many", 1)])

    def test_days_without_a_code(self):
        self.log.put("sales", 3, ("east", 1))
        self.log.set_code("later", "big last 4", 2)
        self.log.set_code("far", "later - 1")
        self.assertEqual(self.monitor.concerned("big", 0), [("many", 0), ("later", 2), ("later", 3), ("far", 3)])
        self.assertEqual(self.monitor.concerned("later", 1), [("far", 2)])

    def test_days_beyond_the_log(self):
        for day in (2, 3, 999):
            self.assertEqual(self.monitor.concerned("sales", day), [])
        log = Log()
        log.add_table("t", COLUMNS)
        log.set_code("u", "t")
        self.assertEqual(Monitor(Store(log)).concerned("t", 0), [])

    def test_against_naive_needs(self):
        for seed in range(30):
            maker = LogMaker(seed)
            log = maker.grow(18)
            monitor = Monitor(Store(log))
            for table in log.tables():
                for day in range(5):
                    wanted = [part for part in naive_parts(log, None) if (table, day) in naive_needs(log, *part)]
                    self.assertEqual(monitor.concerned(table, day), wanted)

    def test_a_long_chain(self):
        log = chain_log()
        log.put("t", 999, (5,))
        self.assertEqual(Monitor(Store(log)).concerned("t", 0), [("u", day) for day in range(1000)])

    def test_errors(self):
        for odd in [*ODD_VALUES, "none", "", 1]:
            self.assertEqual(fields_of(self, UnknownTable, self.monitor.concerned, odd, -1), {"name": odd})
        for odd in [*ODD_VALUES, -1, 1000, "1"]:
            self.assertEqual(fields_of(self, BadDay, self.monitor.concerned, "sales", odd), {"value": odd})


class ChangedTest(unittest.TestCase):
    def setUp(self):
        self.log = sales_log()
        self.store = Store(self.log)
        self.monitor = Monitor(self.store)

    def test_changes_of_rows_and_codes(self):
        self.log.put("sales", 0, ("west", 1))
        self.log.put("sales", 1, ("west", 9))
        self.log.set_code("big", "sales | where 0 < amount", 0)
        self.assertEqual(self.monitor.changed(5, 6), [])
        self.assertEqual(self.monitor.changed(5, 7), [("big", 1), ("many", 1)])
        self.assertEqual(self.monitor.changed(7, 8), [("big", 0), ("many", 0)])
        self.assertEqual(self.monitor.changed(first=5, last=8), [("big", 0), ("many", 0), ("big", 1), ("many", 1)])
        self.assertEqual(self.monitor.changed(7, 7), [])
        self.assertEqual(self.store.made, 0)

    def test_the_first_moment_may_be_later(self):
        self.log.put("sales", 1, ("west", 9))
        self.log.put("sales", 2, ("west", 9))
        self.assertEqual(self.monitor.changed(6, 5), [("big", 1), ("many", 1)])
        self.assertEqual(self.monitor.changed(7, 5), [("big", 1), ("many", 1)])
        self.assertEqual(self.monitor.changed(5, 7), [("big", 1), ("many", 1), ("big", 2), ("many", 2)])
        self.assertEqual(self.monitor.changed(7, 4), [("big", 1)])
        self.assertEqual(self.monitor.changed(7, 0), [])

    def test_tables_that_are_not_there_at_first(self):
        self.assertEqual(self.monitor.changed(3, 4), [("big", 0)])
        self.assertEqual(self.monitor.changed(0, 5), [("big", 0), ("many", 0)])
        self.assertEqual(self.monitor.changed(4, 5), [("many", 0)])

    def test_against_from_scratch(self):
        for seed in range(20):
            log = LogMaker(seed).grow(14)
            monitor = Monitor(Store(log))
            for first in range(len(log) + 1):
                for last in range(0, len(log) + 1, 3):
                    wanted = []
                    for table, day in naive_parts(log, last):
                        there = table in log.tables(first)
                        before = from_scratch(log, table, day, first).rows if there else []
                        if before != from_scratch(log, table, day, last).rows:
                            wanted.append((table, day))
                    self.assertEqual(monitor.changed(first, last), wanted)

    def test_errors(self):
        for odd in [*ODD_VALUES, -1, 6, "1"]:
            self.assertEqual(fields_of(self, BadMoment, self.monitor.changed, odd, None), {"moment": odd})
            self.assertEqual(fields_of(self, BadMoment, self.monitor.changed, 0, odd), {"moment": odd})

    def test_it_keeps_the_very_store(self):
        chance = random.Random(1)
        for _ in range(5):
            self.log.put("sales", chance.randrange(3), ("east", chance.randrange(9)))
            self.assertEqual(self.monitor.waiting(), Monitor(self.store).waiting())
            self.store.compute("many", chance.randrange(2))


if __name__ == "__main__":
    unittest.main()
