"""Differences of contents and answers, and what explains them."""

import itertools
import random
import unittest

from backfilled.codes import show
from backfilled.contents import Content
from backfilled.differences import Difference, explanation
from backfilled.entries import add_entry
from backfilled.errors import BackfilledError, BadCode, BadColumns, BadDay, BadMoment, BadText, LimitExceeded
from backfilled.logs import Log
from backfilled.stores import Store
from backfilled.truth import scratch_answer
from stores_support import COLUMNS, LogMaker, sales_log
from tests_support import ODD_VALUES, ValidCodes, fields_of

NUMBERS = [("a", "number")]


def content(*numbers):
    return Content(NUMBERS, [(number,) for number in numbers])


class DifferenceTest(unittest.TestCase):
    def test_rows_that_come_and_go(self):
        difference = Difference(content(1, 2, 3), content(3, 4))
        self.assertEqual((difference.come, difference.gone, len(difference)), (content(4), content(1, 2), 3))
        self.assertEqual(difference.come.columns, NUMBERS)
        self.assertEqual(Difference(before=content(), after=content(7)).come, content(7))

    def test_no_rows_on_either_side(self):
        for before, after, come, gone in [((), (1,), (1,), ()), ((1,), (), (), (1,)), ((), (), (), ()), ((2,), (2,), (), ())]:
            difference = Difference(content(*before), content(*after))
            self.assertEqual((difference.come, difference.gone), (content(*come), content(*gone)))
            self.assertEqual(len(difference), len(come) + len(gone))

    def test_equality_and_turned(self):
        difference = Difference(content(1, 2), content(2, 3))
        self.assertEqual(difference, Difference(content(1, 5, 6), content(3, 5, 6)))
        self.assertNotEqual(difference, Difference(content(1), content(3, 4)))
        self.assertNotEqual(difference, Difference(content(1, 4), content(3)))
        self.assertNotEqual(difference, content(3))
        turned = difference.turned()
        self.assertEqual((turned.come, turned.gone), (content(1), content(3)))
        self.assertEqual((turned.turned(), turned), (difference, Difference(content(2, 3), content(1, 2))))
        self.assertNotEqual(difference, turned)
        empty = Content([("b", "number")], [])
        self.assertNotEqual(Difference(content(), content()), Difference(empty, empty))

    def test_answers(self):
        log = sales_log()
        store = Store(log)
        before = store.ask("sales", 0)
        log.put("sales", 0, ("east", 9))
        after = store.ask("sales", 0)
        difference = Difference(before, after)
        self.assertEqual((difference.come.rows, difference.gone.rows), ([("east", 9)], [("east", 5)]))
        self.assertEqual(Difference(before.content, after), difference)
        self.assertEqual(Difference(before, after.content), difference)
        self.assertEqual(fields_of(self, BadColumns, Difference, store.ask("many", 0), after), {"value": after})

    def test_bad_columns(self):
        good = content(1)
        others = [Content([("b", "number")], []), Content([("a", "text")], []), Content([*NUMBERS, ("b", "number")], [])]
        for odd in [*ODD_VALUES, 1, "a", [(1,)], *others]:
            caught = fields_of(self, BadColumns, Difference, good, odd)["value"]
            self.assertIs(caught, odd)
            self.assertIs(fields_of(self, BadColumns, Difference, odd, good)["value"], good)
            self.assertIs(fields_of(self, BadColumns, Difference, None, odd)["value"], odd)


def naive_explanation(log, question, day, first, last):
    """The shortest list, tried out one after another."""
    goal = scratch_answer(log, question, day, last)
    for many in range(last - first + 1):
        for moments in itertools.combinations(range(first + 1, last + 1), many):
            made = log.copy(first)
            try:
                for moment in moments:
                    add_entry(made, log[moment])
                if scratch_answer(made, question, day) == goal:
                    return list(moments)
            except BackfilledError:
                continue


class ExplanationTest(unittest.TestCase):
    def setUp(self):
        self.log = Log()
        self.log.add_table("sales", COLUMNS)
        self.log.put("sales", 0, ("east", 5))

    def test_none_one_and_several(self):
        self.log.put("sales", 1, ("west", 5))
        self.log.put("sales", 0, ("west", 6))
        self.log.put("sales", 0, ("north", 7))
        self.assertEqual(explanation(self.log, "sales", 0, 2, 2), [])
        self.assertEqual(explanation(self.log, "sales", 0, 2, 3), [])
        self.assertEqual(explanation(self.log, "sales", 1, 2, 5), [3])
        self.assertEqual(explanation(self.log, "sales last 2", 1, 2, 5), [3, 4, 5])
        self.assertEqual(explanation(log=self.log, question="sales", day=0, first=2, last=5), [4, 5])
        self.assertEqual(explanation(self.log, "sales | group: n = count", 0, 2, 4), [4])
        self.assertEqual(len(self.log), 5)

    def test_equal_contents_again(self):
        self.log.put("sales", 0, ("east", 6))
        self.log.put("sales", 0, ("east", 5))
        self.assertEqual(explanation(self.log, "sales", 0, 2, 4), [])
        self.assertEqual(explanation(self.log, "sales", 0, 3, 4), [4])

    def test_entries_that_explain_only_together(self):
        self.log.put("sales", 0, ("west", 1))
        self.log.put("sales", 1, ("west", 1))
        self.log.put("sales", 0, ("north", 9))
        self.assertEqual(explanation(self.log, "sales | group: n = count | where 2 < n", 0, 2, 5), [3, 5])
        self.log.set_code("two", "sales | group: n = count")
        self.assertEqual(explanation(self.log, "two | where n = 3", 0, 5, 6), [6])

    def test_the_first_of_several_lists(self):
        for shop in ("north", "south", "west"):
            self.log.put("sales", 0, (shop, 1))
        question = "sales | group: n = count | where 2 < n | keep n | group: many = count"
        self.assertEqual(explanation(self.log, question, 0, 2, 5), [3, 4])
        self.log.delete("sales", 0, ("north",))
        self.log.delete("sales", 0, ("south",))
        self.assertEqual(explanation(self.log, "sales | group: n = count", 0, 2, 7), [3])
        self.assertEqual(explanation(self.log, "sales | group: n = count", 0, 5, 7), [6, 7])
        self.assertEqual(explanation(self.log, "sales | group: n = count", 0, 5, 6), [6])

    def test_entries_that_can_be_added_only_with_others(self):
        self.log.add_table("other", [("b", "number")])
        self.log.put("other", 0, (7,))
        self.log.set_code("u", "sales | group: b = count")
        self.log.set_code("u", "other")
        self.assertEqual(explanation(self.log, "u", 0, 2, 6), [3, 4, 6])
        self.assertEqual(explanation(self.log, "u", 0, 2, 5), [5])
        self.assertEqual(explanation(self.log, "u", 0, 5, 6), [6])
        self.assertEqual(explanation(self.log, "u", 0, 3, 6), [4, 6])
        self.assertEqual(explanation(self.log, "other | where b < 0", 0, 0, 3), [3])
        self.assertEqual(explanation(self.log, "sales", 0, 0, 2), [1, 2])

    def test_questions_that_are_not_valid_at_first(self):
        self.log.set_code("u", "sales")
        self.assertEqual(explanation(self.log, "u", 3, 2, 3), [3])
        self.assertEqual(explanation(self.log, "u", 3, 3, 3), [])

    def test_eight_entries_between_and_nine(self):
        for amount in range(9):
            self.log.put("sales", 0, (f"{amount}", amount))
        self.assertEqual(explanation(self.log, "sales", 0, 2, 10), list(range(3, 11)))
        self.assertEqual(explanation(self.log, "sales", 0, 3, 11), list(range(4, 12)))
        caught = fields_of(self, LimitExceeded, explanation, self.log, "sales", 0, 2, 11)
        self.assertEqual(caught, {"limit": 8})

    def test_errors_in_their_order(self):
        self.log.put("sales", 0, ("west", 1))
        call = explanation
        for odd in [*ODD_VALUES, -1, 4, "1"]:
            self.assertEqual(fields_of(self, BadMoment, call, self.log, "|", 0, odd, odd), {"moment": odd})
            self.assertEqual(fields_of(self, BadMoment, call, self.log, "|", 0, 2, odd), {"moment": odd})
        self.assertEqual(fields_of(self, BadMoment, call, self.log, "|", 0, 3, 2), {"moment": 2})
        self.assertEqual(fields_of(self, BadMoment, call, self.log, "|", 0, 9, 2), {"moment": 9})
        self.assertEqual(fields_of(self, BadText, call, self.log, "|", -1, 1, 2), {"at": 0})
        self.assertEqual(fields_of(self, BadCode, call, self.log, "u", -1, 1, 2), {"part": ("table", "u", 0)})
        self.log.set_code("u", "sales")
        self.assertEqual(fields_of(self, BadCode, call, self.log, "u", 0, 1, 3), {"part": ("table", "u", 0)})
        for _ in range(6):
            self.log.put("sales", 0, ("west", 1))
        for odd in [*ODD_VALUES, -1, 1000]:
            self.assertEqual(fields_of(self, BadDay, call, self.log, "sales", odd, 0, 10), {"value": odd})
        self.assertEqual(fields_of(self, LimitExceeded, call, self.log, "sales", 0, 0, 10), {"limit": 8})

    def test_random_logs(self):
        chance = random.Random(5)
        for seed in range(60):
            log = LogMaker(seed).grow(12)
            last = chance.randrange(3, len(log) + 1)
            first = max(0, last - chance.randrange(7))
            question = show(ValidCodes(seed, log.tables(last)).code_of(2))
            with self.subTest(seed=seed, question=question, first=first, last=last):
                for day in (0, 1):
                    expected = naive_explanation(log, question, day, first, last)
                    self.assertEqual(explanation(log, question, day, first, last), expected)


if __name__ == "__main__":
    unittest.main()
