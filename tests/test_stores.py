"""Stores: states, computing, work and dropping."""

import unittest

from backfilled.books import Book
from backfilled.contents import Content
from backfilled.errors import BadDay, BadMoment, UnknownTable
from backfilled.logs import Log
from backfilled.records import Record
from backfilled.stores import Store
from backfilled.truth import from_scratch
from stores_support import COLUMNS, LogMaker, chain_log, fields, sales_log
from tests_support import ODD_VALUES, fields_of

ALL = [("big", 0), ("many", 0), ("big", 1), ("many", 1)]


def places(store):
    return [(record.table, record.day) for record in store.records()]


class StatesTest(unittest.TestCase):
    def setUp(self):
        self.log = sales_log()
        self.store = Store(log=self.log)

    def test_properties_and_records(self):
        self.assertIs(self.store.log, self.log)
        self.assertEqual((self.store.made, self.store.records()), (0, []))
        self.store.compute("many", 0)
        record = self.store.records()[0]
        raw = self.log.raw("sales", 0)
        self.assertEqual(fields(record), ("big", 0, "sales | where 3 < amount", (("sales", 0, raw),), raw))
        self.assertEqual(places(self.store), [("big", 0), ("many", 0)])
        self.store.records().clear()
        self.assertEqual((self.store.made, len(self.store.records())), (2, 2))

    def test_states(self):
        state, content = self.store.state_at, self.store.content_at
        self.assertEqual((state("sales", 0), content("sales", 0).rows), ("fresh", [("east", 5)]))
        self.assertEqual((state("sales", 999), content("sales", 999).columns), ("fresh", COLUMNS))
        self.assertEqual((state("big", 0), state("many", 0), state(table="big", day=7, moment=4)), ("due", "unknown", "due"))
        self.assertEqual((content("big", 0), content("many", 0)), (None, None))
        self.store.compute("big", 0)
        self.assertEqual((state("big", 0), state("many", 0)), ("fresh", "due"))
        self.assertEqual(content(table="big", day=0).rows, [("east", 5)])
        self.assertEqual(self.store.made, 1)

    def test_no_code_and_no_needs(self):
        self.log.set_code("later", "big - 2 | keep shop", 1)
        state, content = self.store.state_at, self.store.content_at
        self.assertEqual((state("later", 0), content("later", 0)), ("fresh", Content([("shop", "text")], [])))
        self.assertEqual((state("later", 1), state("later", 2)), ("due", "unknown"))
        self.assertEqual((len(self.store.compute("later", 1)), self.store.made, self.store.records()[0].inputs), (0, 1, ()))

    def test_earlier_moments(self):
        self.log.put("sales", 0, ("west", 9))
        self.log.set_code("big", "sales | where 6 < amount")
        wanted = {4: [("east", 5)], 6: [("east", 5), ("west", 9)], 7: [("west", 9)]}
        for moment, rows in wanted.items():
            self.assertEqual(self.store.state_at("big", 0, moment), "due")
            self.assertEqual(self.store.compute("big", 0, moment).rows, rows)
        for moment, rows in {5: wanted[4], **wanted}.items():
            self.assertEqual(self.store.content_at("big", 0, moment).rows, rows)
        self.assertEqual(self.store.made, 3)
        self.assertEqual(self.store.state_at("sales", 0, 1), "fresh")

    def test_asking_computes_nothing(self):
        for _ in range(2):
            for part in ALL:
                self.store.state_at(*part)
                self.store.content_at(*part)
            self.store.due()
            self.store.is_done()
            self.store.needed()
        self.assertEqual((self.store.made, self.store.records()), (0, []))

    def test_late_rows_that_do_not_pass_a_filter(self):
        list(self.store.work())
        self.log.put("sales", 0, ("north", 1))
        self.assertEqual((self.store.state_at("many", 0), self.store.due()), ("unknown", [("big", 0)]))
        self.assertEqual((self.store.compute("many", 0).rows, self.store.made), ([(1,)], 5))
        self.assertTrue(self.store.is_done())

    def test_corrections_that_are_taken_back(self):
        list(self.store.work())
        self.log.put("sales", 0, ("east", 9))
        self.assertEqual(self.store.state_at("big", 0), "due")
        self.log.put("sales", 0, ("east", 5))
        self.assertEqual((self.store.state_at("many", 0), self.store.is_done(), self.store.made), ("fresh", True, 4))
        self.log.delete("sales", 0, ("west",))
        self.log.put("sales", 7, ("west", 9))
        self.assertEqual(self.store.content_at("many", 0).rows, [(1,)])

    def test_codes_that_are_put_again(self):
        list(self.store.work())
        self.log.set_code("big", "sales | where 9 < amount")
        self.assertEqual((self.store.state_at("big", 0), len(list(self.store.work()))), ("due", 3))
        self.log.set_code("big", "(sales)|where 3<amount")
        self.assertEqual((self.store.content_at("many", 0).rows, self.store.is_done(), self.store.made), ([(1,)], True, 7))

    def test_each_record_is_made_once(self):
        for _ in range(3):
            for part in ALL[::-1]:
                self.assertEqual(self.store.compute(*part), from_scratch(self.log, *part))
        self.assertEqual((places(self.store), self.store.made), ([("big", 1), ("many", 1), ("big", 0), ("many", 0)], 4))

    def test_compute_makes_what_is_missing_and_nothing_else(self):
        self.log.set_code("twice", "many | join (many last 2 | where day < today | keep many)")
        self.store.compute("big", 0)
        self.store.compute("twice", 1)
        self.assertEqual(places(self.store), [("big", 0), ("big", 1), ("many", 1), ("many", 0), ("twice", 1)])
        self.assertEqual([len(record.inputs) for record in self.store.records()], [1, 1, 1, 1, 2])

    def test_two_stores_over_one_log(self):
        other = Store(self.log)
        list(self.store.work())
        self.assertEqual((other.made, other.state_at("big", 0), other.records()), (0, "due", []))
        list(other.work())
        self.assertEqual(other.records(), self.store.records())
        self.log.put("sales", 0, ("east", 9))
        self.assertEqual(self.store.due(), other.due())

    def test_a_record_with_other_columns(self):
        plan = self.log.question_plan("sales - 1", 5)
        book = Book()
        book.keep(Record("big", 0, plan.text, (), Content([("shop", "text")], [])))
        self.assertIsNone(book.find(("big", 0), plan, ()))
        number = book.make(("big", 0), plan, ())
        self.assertEqual((number, book.find(("big", 0), plan, ()), len(book.told())), (2, 2, 2))

    def test_errors(self):
        for call in (self.store.state_at, self.store.content_at, self.store.compute):
            for odd in [*ODD_VALUES[1:], -1, 6, "1"]:
                self.assertEqual(fields_of(self, BadMoment, call, None, None, odd), {"moment": odd})
            for odd in [*ODD_VALUES, "none", "", "where", 1]:
                self.assertEqual(fields_of(self, UnknownTable, call, odd, -1), {"name": odd})
            self.assertEqual(fields_of(self, UnknownTable, call, "many", 0, 4), {"name": "many"})
            for odd in [*ODD_VALUES, -1, 1000, "1"]:
                self.assertEqual(fields_of(self, BadDay, call, "big", odd), {"value": odd})
        for call in (self.store.due, self.store.is_done):
            for odd in [*ODD_VALUES[1:], -1, 6, "1"]:
                self.assertEqual(fields_of(self, BadMoment, call, odd), {"moment": odd})
        self.assertEqual(self.store.made, 0)

    def test_a_chain_through_all_days(self):
        log = chain_log()
        store = Store(log)
        self.assertEqual(store.state_at("u", 999), "unknown")
        self.assertEqual((store.compute("u", 999).rows, store.made), ([(1,)], 1000))
        log.put("t", 998, (2,))
        self.assertEqual((store.ask("u", 999).content.rows, store.made), ([(1,), (2,)], 1002))
        self.assertEqual(len(store.ask("u last 30", 999).uses()), 2000)
        self.assertEqual((len(list(store.work())), store.is_done()), (0, True))
        self.assertEqual((store.drop(), len(store.needed())), (3, 999))
        self.assertEqual(len(list(Store(log).work())), 999)
        self.assertEqual(len(list(Store(log).backfill("u", 999, 999))), 1000)


class WorkTest(unittest.TestCase):
    def setUp(self):
        self.log = sales_log()
        self.store = Store(self.log)

    def test_due_in_order(self):
        self.assertEqual(self.store.due(), [("big", 0), ("big", 1)])
        self.assertEqual((self.store.due(4), self.store.due(moment=3), self.store.due(0)), ([("big", 0), ("big", 1)], [], []))
        self.store.compute("big", 1)
        self.assertEqual(self.store.due(), [("big", 0), ("many", 1)])
        self.assertEqual(self.store.due(4), [("big", 0)])
        self.store.due().clear()
        self.assertEqual(len(self.store.due()), 2)

    def test_tables_that_need_later_ones(self):
        self.log.set_code("base", "sales | where 0 < amount")
        self.log.set_code("big", "base | where 3 < amount")
        self.assertEqual(self.store.due(), [("base", 0), ("base", 1)])
        self.assertEqual(list(self.store.work()), [("base", 0), *ALL[:2], ("base", 1), *ALL[2:]])

    def test_is_done(self):
        self.assertEqual((self.store.is_done(), self.store.is_done(3), self.store.is_done(moment=4)), (False, True, False))
        list(self.store.work(4))
        self.assertEqual((self.store.is_done(4), self.store.is_done()), (True, False))
        list(self.store.work())
        self.assertTrue(self.store.is_done())
        self.assertEqual(self.store.due(), [])

    def test_no_day_at_all(self):
        log = Log()
        log.add_table("sales", COLUMNS)
        log.set_code("big", "sales")
        log.delete("sales", 7, ("east",))
        store = Store(log)
        self.assertEqual((store.due(), store.is_done(), list(store.work())), ([], True, []))
        self.assertEqual((Store(Log()).due(), Store(Log()).is_done()), ([], True))
        log.put("sales", 0, ("east", 1))
        self.assertEqual(list(store.work()), [("big", 0)])
        log.delete("sales", 0, ("east",))
        self.assertEqual(store.due(), [("big", 0)])

    def test_work_to_its_end(self):
        self.assertEqual((list(self.store.work()), places(self.store)), (ALL, ALL))
        self.assertEqual(list(self.store.work()), [])
        for table, day in ALL:
            self.assertEqual(self.store.content_at(table, day), from_scratch(self.log, table, day))

    def test_work_computes_only_as_it_is_asked(self):
        work = self.store.work()
        self.assertEqual(self.store.made, 0)
        self.assertEqual((next(work), self.store.made), (("big", 0), 1))
        self.assertEqual((next(work), self.store.made), (("many", 0), 2))
        work.close()
        self.assertEqual(list(self.store.work()), ALL[2:])

    def test_entries_between_the_steps(self):
        work = self.store.work()
        self.assertEqual([next(work), next(work), next(work)], ALL[:3])
        self.log.put("sales", 0, ("west", 9))
        self.assertEqual([next(work), next(work)], ALL[:2])
        self.log.put("sales", 2, ("west", 9))
        self.assertEqual(list(work), [("many", 1), ("big", 2), ("many", 2)])
        self.assertTrue(self.store.is_done())
        self.assertEqual(list(work), [])

    def test_entries_between_the_steps_of_a_moment(self):
        work = self.store.work(5)
        self.assertEqual(next(work), ALL[0])
        self.log.put("sales", 0, ("east", 9))
        self.log.put("sales", 5, ("east", 9))
        self.assertEqual(list(work), ALL[1:])
        self.assertEqual((self.store.is_done(5), self.store.is_done(), len(self.store.due())), (True, False, 5))

    def test_others_that_compute_and_drop_between(self):
        work = self.store.work()
        self.assertEqual(next(work), ALL[0])
        self.store.compute("many", 1)
        claim = self.store.claim("ann")
        self.assertEqual((claim.table, claim.finish()), ("many", True))
        self.assertEqual(list(work), [])
        self.log.put("sales", 0, ("east", 9))
        work = self.store.work(moment=6)
        self.assertEqual(next(work), ALL[0])
        self.log.put("sales", 0, ("east", 5))
        self.assertEqual(self.store.drop(), 1)
        self.assertEqual(list(work), ALL[:2])

    def test_two_generators_at_once(self):
        one, other = self.store.work(), self.store.work()
        self.assertEqual([next(one), next(other), next(one), next(other)], ALL)
        self.assertEqual((list(one), list(other)), ([], []))

    def test_errors_at_the_first_step(self):
        for odd in [*ODD_VALUES[1:], -1, 6, "1"]:
            work = self.store.work(odd)
            self.assertEqual(fields_of(self, BadMoment, next, work), {"moment": odd})
        work = self.store.work(6)
        self.log.put("sales", 0, ("east", 5))
        self.assertEqual(next(work), ALL[0])


class BackfillTest(unittest.TestCase):
    def setUp(self):
        self.log = sales_log()
        self.store = Store(self.log)

    def test_days_of_the_log_and_behind(self):
        self.assertEqual(list(self.store.backfill("many", 0, 1)), ALL)
        self.assertEqual(list(self.store.backfill(table="big", first=1, last=3)), [("big", 2), ("big", 3)])
        self.assertEqual(list(self.store.backfill("many", 3, 3)), [("many", 3)])
        self.assertEqual((list(self.store.backfill("many", 0, 1)), self.store.made), ([], 7))
        self.assertEqual(list(self.store.backfill("big", 999, 999)), [("big", 999)])

    def test_order_of_needs(self):
        self.log.set_code("trend", "many - 1 | union many | join (big last 2 | with many = 1)")
        self.assertEqual(list(self.store.backfill("trend", 1, 1)), [*ALL, ("trend", 1)])
        self.assertEqual(list(self.store.backfill("trend", 0, 2)), [("trend", 0), ("big", 2), ("many", 2), ("trend", 2)])

    def test_entries_between_the_steps(self):
        steps = self.store.backfill("many", 0, 2)
        self.assertEqual([next(steps), self.store.made], [("big", 0), 1])
        self.log.put("sales", 0, ("west", 9))
        self.assertEqual([next(steps), next(steps), next(steps)], [("big", 0), ("many", 0), ("big", 1)])
        self.log.put("sales", 0, ("north", 9))
        self.log.put("sales", 1, ("north", 9))
        self.assertEqual([next(steps), next(steps)], [("big", 1), ("many", 1)])
        self.log.set_code("big", "sales | where 8 < amount", 2)
        self.assertEqual(list(steps), [("big", 2), ("many", 2)])
        self.assertEqual(self.store.due(), [("big", 0)])

    def test_a_day_is_left_when_nothing_is_due(self):
        steps = self.store.backfill("big", 0, 1)
        self.assertEqual(next(steps), ("big", 0))
        self.log.put("sales", 0, ("west", 9))
        self.assertEqual(next(steps), ("big", 0))
        self.assertEqual(next(steps), ("big", 1))
        self.log.put("sales", 0, ("north", 9))
        self.log.put("sales", 1, ("west", 3))
        self.assertEqual(list(steps), [("big", 1)])
        self.assertEqual(self.store.due()[0], ("big", 0))

    def test_dropping_between_the_steps(self):
        self.log.set_code("other", "sales | keep shop", 5)
        self.log.set_code("both", "other | union (big | keep shop)", 5)
        steps = self.store.backfill("both", 6, 6)
        self.assertEqual([next(steps), self.store.drop()], [("other", 6), 1])
        self.assertEqual([next(steps), next(steps)], [("other", 6), ("big", 6)])
        self.assertEqual(self.store.drop(), 2)
        self.assertEqual(list(steps), [("other", 6), ("big", 6), ("both", 6)])

    def test_left_and_taken_up_again(self):
        first = self.store.backfill("many", 0, 1)
        self.assertEqual(next(first), ALL[0])
        second = self.store.backfill("many", 1, 1)
        self.assertEqual(list(second), ALL[2:])
        self.assertEqual(list(first), [ALL[1]])
        self.assertEqual(list(first), [])

    def test_days_on_which_no_code_holds(self):
        self.log.set_code("later", "big", 1)
        self.assertEqual(list(self.store.backfill("later", 0, 1)), [("big", 1), ("later", 1)])

    def test_errors_at_the_first_step(self):
        for odd in [*ODD_VALUES, "sales", "none", ""]:
            steps = self.store.backfill(odd, -1, -1)
            self.assertEqual(fields_of(self, UnknownTable, next, steps), {"name": odd})
        for odd in [*ODD_VALUES, -1, 1000, "1"]:
            self.assertEqual(fields_of(self, BadDay, next, self.store.backfill("big", odd, -7)), {"value": odd})
            self.assertEqual(fields_of(self, BadDay, next, self.store.backfill("big", 0, odd)), {"value": odd})
        self.assertEqual(fields_of(self, BadDay, next, self.store.backfill("big", 5, 4)), {"value": 4})
        self.assertEqual(self.store.made, 0)


class DropTest(unittest.TestCase):
    def setUp(self):
        self.log = sales_log()
        self.store = Store(self.log)

    def test_needed_in_order_and_drop(self):
        self.store.compute("many", 1)
        list(self.store.work())
        self.assertEqual(self.store.needed(), self.store.records())
        self.log.put("sales", 0, ("north", 1))
        self.assertEqual([(record.table, record.day) for record in self.store.needed()], ALL[2:])
        list(self.store.work())
        left = [(record.table, record.day) for record in self.store.needed()]
        self.assertEqual(left, [("big", 1), ("many", 1), ("many", 0), ("big", 0)])
        kept = self.store.needed()
        self.assertEqual((self.store.drop(), self.store.records(), self.store.made), (1, kept, 5))
        self.assertEqual((self.store.drop(), self.store.needed()), (0, kept))

    def test_days_behind_those_of_the_log(self):
        list(self.store.backfill("many", 1, 3))
        self.assertEqual(self.store.drop(), 4)
        self.log.put("sales", 2, ("east", 9))
        self.assertEqual((places(self.store), self.store.due()), (ALL[2:], [("big", 0), ("big", 2)]))

    def test_named_answers_at_earlier_moments(self):
        self.store.ask("many", 0, 5, "old")
        self.store.ask("big last 2", 1, 4, "older")
        self.store.ask("big", 7, None, "far")
        self.assertEqual(self.store.made, 4)
        self.log.set_code("big", "sales | where 100 < amount")
        self.log.put("sales", 0, ("east", 9))
        self.assertEqual((self.store.drop(), len(self.store.needed())), (0, 4))
        answers = [self.store.again(name) for name in self.store.names()]
        self.store.forget("older")
        self.assertEqual((self.store.drop(), places(self.store)), (1, [("big", 0), ("many", 0), ("big", 7)]))
        self.store.forget("old")
        self.assertEqual((self.store.drop(), self.store.again("far")), (2, answers[2]))
        self.store.forget("far")
        self.assertEqual((self.store.drop(), self.store.records()), (1, []))

    def test_answers_before_and_after_dropping(self):
        answers = [self.store.ask(table, day, moment) for table in ("big", "sales") for day in (0, 1) for moment in (4, 5)]
        self.log.put("sales", 0, ("east", 0))
        self.assertEqual(self.store.drop(), 1)
        for answer in answers:
            self.assertEqual(self.store.ask(answer.question, answer.day, answer.moment), answer)
        self.assertEqual(self.store.made, 3)

    def test_records_that_are_made_again(self):
        list(self.store.work())
        before = self.store.records()
        self.log.put("sales", 0, ("east", 6))
        self.store.drop()
        self.log.put("sales", 0, ("east", 5))
        self.assertEqual((self.store.state_at("big", 0), self.store.state_at("many", 0)), ("due", "unknown"))
        self.assertEqual(list(self.store.work()), ALL[:2])
        self.assertEqual((self.store.made, self.store.records()), (6, before[2:] + before[:2]))

    def test_dropping_changes_no_answer(self):
        for seed in range(30):
            log = LogMaker(seed).grow(12)
            store = Store(log)
            for moment in range(len(log) + 1):
                list(store.work(moment))
            for _ in range(2):
                for moment in range(len(log) + 1):
                    for table in log.tables(moment):
                        for day in (0, 1, 4):
                            self.assertEqual(store.ask(table, day, moment).content, from_scratch(log, table, day, moment))
                store.drop()
                self.assertEqual(store.needed(), store.records())
                self.assertTrue(store.is_done())


if __name__ == "__main__":
    unittest.main()
