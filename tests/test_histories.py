"""Histories of questions and rows, and watches."""

import random
import unittest

from backfilled.codes import show
from backfilled.contents import Content
from backfilled.differences import Difference
from backfilled.errors import BadCode, BadDay, BadName, BadText, BackfilledError, NameTaken, UnknownName
from backfilled.histories import Watches, history, history_of_row
from backfilled.logs import Log
from backfilled.stores import Store
from backfilled.truth import scratch_answer
from stores_support import COLUMNS, LogMaker, chain_log, sales_log
from tests_support import ODD_VALUES, ValidCodes, fields_of


def naive_contents(log, question, day):
    """A dict from the moments at which a question is valid to its contents."""
    found = {}
    for moment in range(len(log) + 1):
        try:
            found[moment] = scratch_answer(log, question, day, moment)
        except BackfilledError:
            pass
    return found


def naive_runs(values):
    """The runs of moments with equal values: tuples of the first, the last and the value."""
    runs = []
    for moment, value in values.items():
        if runs and runs[-1][1] == moment - 1 and runs[-1][2] == value:
            runs[-1] = (runs[-1][0], moment, value)
        else:
            runs.append((moment, moment, value))
    return runs


def random_questions(seed):
    """A log and questions of it."""
    maker = LogMaker(seed)
    log = maker.grow(16)
    codes = ValidCodes(seed, log.tables())
    return log, [*log.tables(), *[show(codes.code_of(codes.random.randrange(4))) for _ in range(4)]]


class HistoryTest(unittest.TestCase):
    def setUp(self):
        self.log = sales_log()

    def rows(self, question, day):
        return [(first, last, content.rows) for first, last, content in history(self.log, question, day)]

    def test_spans(self):
        self.log.put("sales", 1, ("east", 1))
        self.log.put("sales", 0, ("east", 2))
        self.assertEqual(self.rows("sales", 0), [(1, 1, []), (2, 6, [("east", 5)]), (7, 7, [("east", 2)])])
        self.assertEqual(self.rows("sales", 9), [(1, 7, [])])

    def test_questions_that_become_valid_late(self):
        self.assertEqual(self.rows("many", 0), [(5, 5, [(1,)])])
        self.assertEqual(self.rows("sales | join (big | keep shop)", 0), [(4, 5, [("east", 5)])])
        self.log.put("sales", 0, ("east", 0))
        self.assertEqual(self.rows("many | keep many", 0), [(5, 5, [(1,)]), (6, 6, [])])

    def test_the_same_again_later(self):
        self.log.delete("sales", 0, ("east",))
        self.log.delete("sales", 0, ("east",))
        self.log.put("sales", 0, ("east", 5))
        self.assertEqual(self.rows("big", 0), [(4, 5, [("east", 5)]), (6, 7, []), (8, 8, [("east", 5)])])

    def test_codes_that_change(self):
        self.log.set_code("big", "sales | where 9 < amount", 1)
        self.log.set_code("big", "sales | where amount < 9")
        self.log.set_code("big", "sales | where 0 < amount")
        self.assertEqual(self.rows("big", 1), [(4, 6, []), (7, 8, [("west", 2)])])
        self.assertEqual(self.rows("many", 1), [(5, 6, []), (7, 8, [(1,)])])
        self.log.set_code("later", "big", 2)
        self.log.set_code("later", "big", 1)
        self.assertEqual(self.rows("later", 1), [(9, 9, []), (10, 10, [("west", 2)])])

    def test_contents(self):
        spans = history(log=self.log, question="sales|keep shop", day=0)
        self.assertEqual(spans[0], (1, 1, Content([("shop", "text")], [])))
        spans.clear()
        self.assertEqual(len(history(self.log, "sales | keep shop", 0)), 2)

    def test_rows_that_come_and_go(self):
        row = ("east", 5)
        self.assertEqual(history_of_row(log=self.log, question="sales", day=0, row=row), [(2, 5)])
        self.log.put("sales", 0, ("west", 1))
        self.log.put("sales", 0, ("east", 6))
        self.log.put("sales", 0, ("west", 2))
        self.log.put("sales", 0, ("east", 5))
        self.assertEqual(history_of_row(self.log, "sales", 0, row), [(2, 6), (9, 9)])
        self.assertEqual(history_of_row(self.log, "big", 0, row), [(4, 6), (9, 9)])
        self.assertEqual(history_of_row(self.log, "sales", 1, row), [])

    def test_values_that_are_no_rows(self):
        log = Log()
        log.add_table("t", [("a", "number")])
        log.put("t", 0, (1,))
        for odd in [*ODD_VALUES, 1, (True,), (1.0,), ("1",), (1, 1), [1], ((1,),), ([],), ({},)]:
            self.assertEqual(history_of_row(log, "t", 0, odd), [])
        self.assertEqual(history_of_row(log, "t", 0, (1,)), [(2, 2)])

    def test_against_from_scratch(self):
        for seed in range(40):
            log, questions = random_questions(seed)
            for question in questions:
                for day in (0, 1, 3):
                    contents = naive_contents(log, question, day)
                    self.assertEqual(history(log, question, day), naive_runs(contents))
                    for row in {row for content in contents.values() for row in content.rows}:
                        there = naive_runs({moment: True for moment, content in contents.items() if row in content})
                        self.assertEqual(history_of_row(log, question, day, row), [(first, last) for first, last, _ in there])

    def test_a_long_chain(self):
        log = chain_log()
        log.put("t", 7, (3,))
        self.assertEqual([content.rows for _, _, content in history(log, "u", 999)], [[], [(1,)], [(1,), (3,)]])

    def test_errors(self):
        for call, more in [(history, ()), (history_of_row, ((1,),))]:
            for odd in [*ODD_VALUES, 1]:
                self.assertEqual(fields_of(self, BadText, call, self.log, odd, -1, *more), {"at": None})
            self.assertEqual(fields_of(self, BadText, call, self.log, "none |", -1, *more), {"at": 6})
            self.assertEqual(fields_of(self, BadCode, call, self.log, "none", -1, *more), {"part": ("table", "none", 0)})
            for odd in [*ODD_VALUES, -1, 1000, "1"]:
                self.assertEqual(fields_of(self, BadDay, call, self.log, "sales", odd, *more), {"value": odd})


class WatchesTest(unittest.TestCase):
    def setUp(self):
        self.log = sales_log()
        self.store = Store(self.log)
        self.watches = Watches(store=self.store)

    def told(self, name):
        return [(moment, news.come.rows, news.gone.rows) for moment, news in self.watches.news(name)]

    def test_news_at_once_late_and_twice(self):
        self.assertIsNone(self.watches.add("one", "sales|keep amount", 0))
        self.assertEqual(self.told("one"), [])
        self.log.put("sales", 0, ("east", 6))
        self.assertEqual(self.told("one"), [(6, [(6,)], [(5,)])])
        self.assertEqual(self.told("one"), [])
        self.log.put("sales", 1, ("east", 7))
        self.log.put("sales", 0, ("west", 6))
        self.log.put("sales", 0, ("north", 7))
        self.log.delete("sales", 0, ("north",))
        self.assertEqual(self.told("one"), [(9, [(7,)], []), (10, [], [(7,)])])
        self.assertEqual(self.told("one"), [])

    def test_what_was_before_is_not_told(self):
        self.log.put("sales", 0, ("east", 6))
        self.watches.add(name="one", question="sales", day=0)
        self.watches.add("two", "many", 0)
        self.log.set_code("big", "sales | where 9 < amount")
        self.assertEqual((self.told("one"), self.told("two")), ([], [(7, [], [(1,)])]))

    def test_each_name_by_itself(self):
        self.watches.add("one", "sales", 0)
        self.watches.add("two", "sales", 0)
        self.log.put("sales", 0, ("east", 6))
        news = [(6, [("east", 6)], [("east", 5)])]
        self.assertEqual((self.told("one"), self.told("one"), self.told("two")), (news, [], news))

    def test_names(self):
        for name in ("one", "two", "three"):
            self.watches.add(name, "sales", 0)
        self.log.put("sales", 0, ("east", 6))
        self.assertIsNone(self.watches.remove("one"))
        self.assertEqual(self.watches.names(), ["two", "three"])
        self.watches.add("one", "sales", 0)
        self.assertEqual((self.watches.names(), self.told("one"), len(self.told("two"))), (["two", "three", "one"], [], 1))
        self.watches.names().clear()
        self.assertEqual(len(self.watches.names()), 3)

    def test_differences(self):
        self.watches.add("one", "sales", 0)
        self.log.delete("sales", 0, ("east",))
        (moment, difference), = self.watches.news("one")
        self.assertIsInstance(difference, Difference)
        self.assertEqual((moment, len(difference), difference.gone.columns), (6, 1, COLUMNS))

    def test_it_computes_no_records(self):
        self.watches.add("one", "many", 0)
        self.log.put("sales", 0, ("west", 9))
        self.assertEqual((len(self.watches.news("one")), self.store.made, self.store.names()), (1, 0, []))

    def test_against_contents(self):
        for seed in range(25):
            maker = LogMaker(seed)
            chance = random.Random(seed)
            watches = Watches(Store(maker.grow(8)))
            seen = {}
            for name in ("one", "two", "three"):
                codes = ValidCodes(chance.randrange(10 ** 9), maker.log.tables())
                seen[name] = (show(codes.code_of(2)), chance.randrange(4), len(maker.log))
                watches.add(name, *seen[name][:2])
                maker.grow(chance.randrange(4))
            for _ in range(10):
                name = chance.choice(list(seen))
                question, day, told = seen[name]
                wanted = []
                for moment in range(told + 1, len(maker.log) + 1):
                    before, after = [scratch_answer(maker.log, question, day, at) for at in (moment - 1, moment)]
                    if before != after:
                        wanted.append((moment, Difference(before, after)))
                self.assertEqual(watches.news(name), wanted)
                seen[name] = (question, day, len(maker.log))
                maker.grow(chance.randrange(4))

    def test_errors(self):
        self.watches.add("one", "sales", 0)
        for odd in [*ODD_VALUES, 1, "", "where", "toolongname", "One"]:
            self.assertEqual(fields_of(self, BadName, self.watches.add, odd, None, None), {"value": odd})
            self.assertEqual(fields_of(self, UnknownName, self.watches.remove, odd), {"name": odd})
            self.assertEqual(fields_of(self, UnknownName, self.watches.news, odd), {"name": odd})
        self.assertEqual(fields_of(self, NameTaken, self.watches.add, "one", None, None), {"name": "one"})
        self.assertEqual(fields_of(self, UnknownName, self.watches.news, "two"), {"name": "two"})
        self.assertEqual(fields_of(self, BadText, self.watches.add, "two", None, None), {"at": None})
        self.assertEqual(fields_of(self, BadCode, self.watches.add, "two", "none", None), {"part": ("table", "none", 0)})
        for odd in [*ODD_VALUES, -1, 1000, "1"]:
            self.assertEqual(fields_of(self, BadDay, self.watches.add, "two", "sales", odd), {"value": odd})
        self.assertEqual(self.watches.names(), ["one"])


if __name__ == "__main__":
    unittest.main()
