"""Budgets: how many records that are not needed a store keeps, and which."""

import random
import unittest

from backfilled.answers import Answer
from backfilled.budgets import Budget
from backfilled.codes import show
from backfilled.errors import BadCode, BadDay, BadMoment, BadNumber, BadText, BackfilledError
from backfilled.stores import Store
from backfilled.truth import scratch_answer
from stores_support import LogMaker, sales_log
from tests_support import ODD_VALUES, ValidCodes, fields_of


def places(records):
    """The tables and days of records."""
    return [(record.table, record.day) for record in records]


class BudgetTest(unittest.TestCase):
    def setUp(self):
        self.log = sales_log()
        self.store = Store(self.log)

    def old_records(self, many):
        """Makes so many records that are not needed, of big, on days far behind the log."""
        for day in range(many):
            self.store.compute("big", 10 + day)

    def test_answers(self):
        answer = Budget(self.store, 5).use("big|keep shop", 0)
        self.assertIsInstance(answer, Answer)
        self.assertEqual((answer, answer.name, self.store.names()), (self.store.ask("big | keep shop", 0), None, []))
        self.assertEqual(Budget(store=self.store, most=5).use(question="sales", day=0, moment=1).content.rows, [])
        self.assertEqual(Budget(self.store, 5).use("big", 0, 4).moment, 4)

    def test_order_of_records_that_were_never_used(self):
        budget = Budget(self.store, 9)
        self.assertEqual(budget.order(), [])
        self.old_records(3)
        list(self.store.work())
        self.assertEqual(places(budget.order()), [("big", 10), ("big", 11), ("big", 12)])
        budget.order().clear()
        self.assertEqual(len(budget.order()), 3)

    def test_order_by_the_last_use(self):
        budget = Budget(self.store, 9)
        self.old_records(4)
        budget.use("big", 11)
        budget.use("big", 10)
        self.assertEqual(places(budget.order()), [("big", 12), ("big", 13), ("big", 11), ("big", 10)])
        budget.use("big - 1", 12)
        self.assertEqual(places(budget.order()), [("big", 12), ("big", 13), ("big", 10), ("big", 11)])
        budget.use("big last 2", 13)
        self.assertEqual(places(budget.order()), [("big", 10), ("big", 11), ("big", 12), ("big", 13)])
        other = Budget(self.store, 9)
        self.assertEqual(places(other.order()), [("big", 10), ("big", 11), ("big", 12), ("big", 13)])
        self.store.ask("big", 10)
        self.store.compute("big", 10)
        self.assertEqual(places(budget.order()), [("big", 10), ("big", 11), ("big", 12), ("big", 13)])

    def test_within_one_use_in_the_order_of_uses(self):
        budget = Budget(self.store, 9)
        budget.use("many - 1 | join (big - 2 | keep shop | with many = 1)", 20)
        self.assertEqual(places(budget.order()), [("big", 18), ("big", 19), ("many", 19)])
        self.assertEqual(places(self.store.records()), [("big", 19), ("many", 19), ("big", 18)])

    def test_records_of_the_answers_moment(self):
        budget = Budget(self.store, 9)
        self.log.put("sales", 0, ("east", 6))
        list(self.store.work())
        budget.use("big", 0, 5)
        budget.use("big", 0)
        self.assertEqual([record.content.rows for record in budget.order()], [[("east", 5)]])
        self.log.put("sales", 0, ("east", 7))
        list(self.store.work())
        self.assertEqual([record.content.rows for record in budget.order()], [[(1,)], [("east", 5)], [("east", 6)]])
        budget.use("big", 0, 5)
        self.assertEqual([record.content.rows for record in budget.order()], [[(1,)], [("east", 6)], [("east", 5)]])

    def test_trim(self):
        self.old_records(5)
        list(self.store.work())
        budget = Budget(self.store, 2)
        self.assertEqual(len(self.store.records()), 9)
        self.assertEqual(budget.trim(), 3)
        self.assertEqual((places(budget.order()), len(self.store.records())), ([("big", 13), ("big", 14)], 6))
        self.assertEqual((budget.trim(), Budget(self.store, 0).trim(), budget.trim()), (0, 2, 0))
        self.assertEqual((self.store.is_done(), self.store.made), (True, 9))

    def test_use_trims(self):
        self.old_records(4)
        budget = Budget(self.store, 2)
        budget.use("big", 11)
        self.assertEqual(places(budget.order()), [("big", 13), ("big", 11)])
        budget.use("big", 30)
        self.assertEqual(places(budget.order()), [("big", 11), ("big", 30)])
        budget.use("big", 11)
        budget.use("big", 31)
        self.assertEqual(places(budget.order()), [("big", 11), ("big", 31)])

    def test_records_that_were_dropped_and_made_again(self):
        self.old_records(3)
        budget = Budget(self.store, 9)
        budget.use("big", 10)
        budget.use("big", 11)
        self.store.drop()
        self.assertEqual(budget.order(), [])
        self.old_records(3)
        self.assertEqual(places(budget.order()), [("big", 12), ("big", 10), ("big", 11)])
        self.log.put("sales", 11, ("east", 5))
        self.assertEqual(places(budget.order()), [("big", 12), ("big", 11)])

    def test_a_budget_of_0(self):
        budget = Budget(self.store, 0)
        answer = budget.use("big last 3", 20)
        self.assertEqual((answer.content.rows, self.store.made, self.store.records()), ([], 3, []))
        budget.use("many", 0)
        self.assertEqual(places(self.store.records()), [("big", 0), ("many", 0)])

    def test_needed_records_stay(self):
        self.store.ask("big", 0, None, "old")
        self.log.put("sales", 0, ("east", 6))
        budget = Budget(self.store, 0)
        budget.use("big", 0)
        self.assertEqual((len(self.store.records()), budget.order()), (2, []))
        self.store.forget("old")
        self.assertEqual((len(budget.order()), budget.trim(), len(self.store.records())), (1, 1, 1))

    def test_two_budgets(self):
        self.old_records(3)
        one, other = Budget(self.store, 9), Budget(self.store, 9)
        one.use("big", 10)
        other.use("big", 12)
        self.assertEqual(places(one.order()), [("big", 11), ("big", 12), ("big", 10)])
        self.assertEqual(places(other.order()), [("big", 10), ("big", 11), ("big", 12)])

    def test_errors_of_use(self):
        self.old_records(3)
        budget = Budget(self.store, 1)
        for error, values, fields in [
            (BadMoment, ("none |", -1, 9), {"moment": 9}), (BadMoment, ("big", 0, True), {"moment": True}),
            (BadText, ("none |", -1), {"at": 6}), (BadText, (None, -1), {"at": None}), (BadCode, ("none", -1), {"part": ("table", "none", 0)}),
            (BadCode, ("many", 0, 4), {"part": ("table", "many", 0)}), (BadDay, ("big", -1), {"value": -1}), (BadDay, ("big", 1000), {"value": 1000}),
        ]:
            self.assertEqual(fields_of(self, error, budget.use, *values), fields)
            self.assertEqual((len(self.store.records()), self.store.made), (3, 3))

    def test_numbers(self):
        for odd in [*ODD_VALUES, -1, 1001, "1", 10 ** 30]:
            self.assertEqual(fields_of(self, BadNumber, Budget, self.store, odd), {"value": odd})
        for most in (0, 1, 1000):
            self.assertEqual(Budget(self.store, most).trim(), 0)


class RandomTest(unittest.TestCase):
    def naive_order(self, store, used):
        free = [record for record in store.records() if record not in store.needed()]
        return sorted(free, key=lambda record: used.index(record) if record in used else -1)

    def test_against_a_naive_order(self):
        dropped = 0
        for seed in range(40):
            maker = LogMaker(seed)
            chance = random.Random(seed)
            store = Store(maker.grow(10))
            budget = Budget(store, most := chance.choice([0, 1, 3, 8]))
            used = []
            for _ in range(25):
                pick = chance.randrange(5)
                if pick == 0:
                    maker.grow(1)
                elif pick == 1:
                    for _ in zip(range(chance.randrange(3)), store.work()):
                        pass
                elif pick == 2 and chance.random() < 0.3:
                    store.drop()
                else:
                    codes = ValidCodes(chance.randrange(10 ** 9), maker.log.tables())
                    question = show(codes.code_of(chance.randrange(2)))
                    moment = chance.choice([None, chance.randrange(len(maker.log) + 1)])
                    other = Store(maker.log)
                    other.keep_records(store.records())
                    try:
                        wanted = other.ask(question, day := chance.randrange(6), moment)
                    except BackfilledError as error:
                        self.assertEqual(fields_of(self, type(error), budget.use, question, day, moment), vars(error))
                        continue
                    for record in other.records_by(wanted.uses(), wanted.moment):
                        used = [known for known in used if known != record] + [record]
                    self.assertEqual(budget.use(question, day, moment), wanted)
                    self.assertEqual(wanted.content, scratch_answer(maker.log, question, day, moment))
                    free = self.naive_order(other, used)
                    self.assertEqual(budget.order(), free[max(0, len(free) - most):])
                    dropped += len(free) > most
                self.assertEqual(budget.order(), self.naive_order(store, used))
        self.assertGreater(dropped, 20)


if __name__ == "__main__":
    unittest.main()
