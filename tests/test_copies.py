"""Copies of logs that go other ways, and logs that grow, against logs that are built anew."""

import random
import unittest

from backfilled.entries import add_entry
from backfilled.errors import BackfilledError
from backfilled.logs import Log
from backfilled.truth import from_scratch
from stores_support import LogMaker, sales_log

DAYS = (0, 1, 2, 3)


def told(log):
    """All that a log tells at each of its moments."""
    found = []
    for moment in range(len(log) + 1):
        tables = log.tables(moment)
        found.append((log.last_day(moment), list(tables.items())))
        for table in tables:
            for day in DAYS:
                found.append((table, day, moment, from_scratch(log, table, day, moment).rows))
                if log.is_raw(table, moment):
                    found.append(log.raw(table, day, moment).rows)
                else:
                    found.append((log.code_at(table, day, moment), log.code_moment(table, day, moment)))
    return found


def built(entries):
    """A log of these entries."""
    log = Log()
    for entry in entries:
        add_entry(log, entry)
    return log


class CopiesTest(unittest.TestCase):
    def test_copies_that_go_another_way(self):
        for seed in range(40):
            chance = random.Random(seed)
            log = LogMaker(seed).grow(14)
            if chance.random() < 0.7:
                told(log)
            copied = log.copy(chance.randrange(2, len(log)))
            if chance.random() < 0.5:
                told(copied)
            maker = LogMaker(seed + 1000)
            maker.log = copied
            maker.grow(8)
            with self.subTest(seed=seed):
                self.assertEqual(told(copied), told(built(copied.entries())))
                self.assertEqual(told(log), told(built(log.entries())))

    def test_codes_that_may_be_put_into_copies(self):
        log = sales_log()
        early = log.copy(4)
        log.set_code("other", "many")
        self.assertEqual(early.set_code("many", "sales"), 5)
        self.assertEqual(early.set_code("other", "many"), 6)
        with self.assertRaises(BackfilledError):
            log.set_code("many", "sales")
        late = log.copy()
        with self.assertRaises(BackfilledError):
            late.set_code("many", "other")

    def test_tables_of_one_name_that_are_not_of_one_kind(self):
        for asked_first in (True, False):
            log = sales_log()
            other = log.copy()
            log.set_code("new", "sales - 1")
            log.set_code("more", "new | keep shop")
            if asked_first:
                told(log)
            other.add_table("new", [("shop", "text")])
            other.put("new", 1, ("here",))
            self.assertEqual(from_scratch(other, "new", 1).rows, [("here",)])
            other.set_code("more", "new last 2 | keep shop")
            self.assertEqual(from_scratch(other, "more", 2).rows, [("here",)])
            self.assertEqual(told(other), told(built(other.entries())))
            self.assertEqual(told(log), told(built(log.entries())))

    def test_logs_that_are_asked_while_they_grow(self):
        for seed in range(30):
            maker = LogMaker(seed)
            for _ in range(4):
                maker.grow(3)
                with self.subTest(seed=seed):
                    self.assertEqual(told(maker.log), told(built(maker.log.entries())))


if __name__ == "__main__":
    unittest.main()
