"""Rules of data: where they are broken, since when, and by which rows."""

import random
import unittest

from backfilled.codes import show
from backfilled.errors import BadCode, BadMoment, BadName, BadText, BackfilledError, NameTaken, UnknownName
from backfilled.logs import Log
from backfilled.rules import Rules
from backfilled.truth import scratch_answer
from stores_support import LogMaker, chain_log, sales_log
from tests_support import ODD_VALUES, ValidCodes, fields_of


def naive_rows(log, question, day, moment):
    """The rows of a question, none at a moment at which it is not valid."""
    try:
        return scratch_answer(log, question, day, moment).rows
    except BackfilledError:
        return []


def naive_broken(log, question, moment):
    last = log.last_day(moment)
    rows = [(day, naive_rows(log, question, day, moment)) for day in range(0 if last is None else last + 1)]
    return [(day, found) for day, found in rows if found]


def naive_start(holds, last):
    """The least moment from which on something holds at all moments up to the last one, or None."""
    start = None
    for moment in range(last, -1, -1):
        if not holds(moment):
            break
        start = moment
    return start


class RulesTest(unittest.TestCase):
    def setUp(self):
        self.log = Log()
        self.log.add_table("t", [("a", "number")])
        self.log.put("t", 1, (7,))
        self.rules = Rules(log=self.log)
        self.rules.add(name="small", question="t|where 9<a")

    def told(self, name="small"):
        return (self.rules.broken(name), self.rules.since(name), self.rules.blame(name))

    def test_a_rule_that_is_kept(self):
        self.assertEqual(self.told(), ([], None, []))
        self.assertIsNone(self.rules.add("any", "t"))
        self.assertEqual(self.told("any"), ([(1, [(7,)])], 2, [(1, (7,), 2)]))

    def test_broken_kept_and_broken_again(self):
        self.log.put("t", 0, (12,))
        self.log.put("t", 0, (10,))
        self.assertEqual(self.told(), ([(0, [(10,), (12,)])], 3, [(0, (10,), 4), (0, (12,), 3)]))
        self.log.delete("t", 0, (12,))
        self.assertEqual(self.told(), ([(0, [(10,)])], 3, [(0, (10,), 4)]))
        self.log.delete("t", 0, (10,))
        self.assertEqual(self.told(), ([], None, []))
        self.log.put("t", 1, (3,))
        self.log.put("t", 1, (11,))
        self.log.put("t", 0, (12,))
        self.log.delete("t", 1, (11,))
        self.log.put("t", 0, (12,))
        self.assertEqual(self.told(), ([(0, [(12,)])], 8, [(0, (12,), 9)]))

    def test_at_each_moment(self):
        self.log.put("t", 0, (12,))
        self.log.delete("t", 0, (12,))
        self.log.put("t", 3, (15,))
        wanted = {0: [], 1: [], 2: [], 3: [(0, [(12,)])], 4: [], 5: [(3, [(15,)])]}
        for moment, found in wanted.items():
            self.assertEqual(self.rules.broken(name="small", moment=moment), found)
        self.assertEqual(self.rules.broken("small", None), wanted[5])

    def test_one_day_takes_over_from_another(self):
        self.log.put("t", 0, (12,))
        self.log.put("t", 1, (13,))
        self.log.delete("t", 0, (12,))
        self.log.put("t", 0, (14,))
        self.log.delete("t", 1, (13,))
        self.assertEqual(self.told(), ([(0, [(14,)])], 3, [(0, (14,), 6)]))

    def test_questions_that_are_not_valid_at_first(self):
        self.log.put("t", 0, (12,))
        self.log.set_code("big", "t | where 5 < a")
        self.rules.add("none", "big")
        self.log.put("t", 0, (1,))
        self.assertEqual(self.rules.broken("none", 3), [])
        self.assertEqual(self.told("none"), ([(0, [(12,)]), (1, [(7,)])], 4, [(0, (12,), 4), (1, (7,), 4)]))
        self.assertEqual(self.rules.broken("none", 0), [])

    def test_days_that_come_to_the_log_later(self):
        self.log.set_code("old", "t last 30 | keep a | where a < 8")
        self.rules.add("old", "old")
        self.rules.add("late", "t last 30 | keep a | where 3 < today")
        self.assertEqual(self.told("old"), ([(1, [(7,)])], 3, [(1, (7,), 3)]))
        self.assertEqual(self.told("late"), ([], None, []))
        self.log.put("t", 0, (9,))
        self.log.put("t", 5, (8,))
        self.assertEqual(self.rules.broken("late"), [(4, [(7,), (9,)]), (5, [(7,), (8,), (9,)])])
        self.assertEqual(self.rules.since("late"), 5)
        self.assertEqual(self.rules.blame("late"), [
            (4, (7,), 2), (4, (9,), 4), (5, (7,), 2), (5, (8,), 5), (5, (9,), 4),
        ])
        self.assertEqual(self.rules.since("old"), 3)

    def test_a_log_without_days(self):
        log = Log()
        log.add_table("t", [("a", "number")])
        rules = Rules(log)
        rules.add("any", "t")
        log.delete("t", 5, (1,))
        self.assertEqual((rules.broken("any"), rules.since("any"), rules.blame("any")), ([], None, []))

    def test_names(self):
        for name in ("one", "two"):
            self.rules.add(name, "t")
        self.assertEqual(self.rules.names(), ["small", "one", "two"])
        self.assertIsNone(self.rules.remove("one"))
        self.rules.add("one", "t - 1")
        self.rules.names().clear()
        self.assertEqual((self.rules.names(), len(self.rules.broken("one"))), (["small", "two", "one"], 0))
        fields_of(self, UnknownName, Rules(self.log).broken, "one")

    def test_lists_are_new(self):
        self.log.put("t", 0, (12,))
        for day, rows in self.rules.broken("small"):
            rows.clear()
        self.rules.blame("small").clear()
        self.assertEqual((self.rules.broken("small"), len(self.rules.blame("small"))), ([(0, [(12,)])], 1))

    def test_errors(self):
        for odd in [*ODD_VALUES, "", "where", "Small", "toolongname", 1]:
            self.assertEqual(fields_of(self, BadName, self.rules.add, odd, None), {"value": odd})
            for call in (self.rules.remove, self.rules.since, self.rules.blame):
                self.assertEqual(fields_of(self, UnknownName, call, odd), {"name": odd})
            self.assertEqual(fields_of(self, UnknownName, self.rules.broken, odd, -1), {"name": odd})
        self.assertEqual(fields_of(self, NameTaken, self.rules.add, "small", None), {"name": "small"})
        self.assertEqual(fields_of(self, BadText, self.rules.add, "other", None), {"at": None})
        self.assertEqual(fields_of(self, BadText, self.rules.add, "other", "t |"), {"at": 3})
        self.assertEqual(fields_of(self, BadCode, self.rules.add, "other", "u"), {"part": ("table", "u", 0)})
        self.assertEqual(fields_of(self, UnknownName, self.rules.since, "other"), {"name": "other"})
        for odd in [*ODD_VALUES[1:], -1, 3, "1"]:
            self.assertEqual(fields_of(self, BadMoment, self.rules.broken, "small", odd), {"moment": odd})
        self.assertEqual(self.rules.names(), ["small"])

    def test_a_long_chain(self):
        log = chain_log()
        log.put("t", 999, (5,))
        rules = Rules(log)
        rules.add("one", "u | where a = 1")
        self.assertEqual((len(rules.broken("one")), rules.since("one")), (1000, 3))
        self.assertEqual(rules.blame("one")[-1], (999, (1,), 4))


class RandomTest(unittest.TestCase):
    def test_against_from_scratch(self):
        broken = 0
        for seed in range(40):
            maker = LogMaker(seed)
            log = maker.grow(12)
            rules = Rules(log)
            codes = ValidCodes(seed, log.tables())
            questions = {name: show(codes.code_of(random.Random(seed).randrange(3))) for name in ("one", "two", "three")}
            for name, question in questions.items():
                rules.add(name, question)
            for _ in range(4):
                last = len(log)
                for name, question in questions.items():
                    for moment in [*range(last + 1), None]:
                        self.assertEqual(rules.broken(name, moment), naive_broken(log, question, moment))
                    since = naive_start(lambda moment: naive_broken(log, question, moment), last)
                    self.assertEqual(rules.since(name), since)
                    blame = []
                    for day, rows in naive_broken(log, question, None):
                        for row in rows:
                            blame.append((day, row, naive_start(lambda moment: row in naive_rows(log, question, day, moment), last)))
                    self.assertEqual(rules.blame(name), blame)
                    broken += since is not None
                maker.grow(3)
        self.assertGreater(broken, 100)


if __name__ == "__main__":
    unittest.main()
