"""Answers: asking at any moment, names, and what a question uses."""

import unittest

from backfilled.errors import BadCode, BadDay, BadMoment, BadName, BadText, NameTaken, UnknownName
from backfilled.logs import Log
from backfilled.stores import Store
from backfilled.truth import scratch_answer
from stores_support import sales_log
from tests_support import ODD_VALUES, fields_of


class AnswerTest(unittest.TestCase):
    def setUp(self):
        self.log = sales_log()
        self.store = Store(self.log)

    def test_attributes_and_rows(self):
        answer = self.store.ask("  (big)|keep  shop", 0)
        self.assertEqual((answer.question, answer.day, answer.moment, answer.name), ("big | keep shop", 0, 5, None))
        self.assertEqual((answer.content.rows, len(answer)), ([("east",)], 1))
        self.assertTrue(("east",) in answer and answer)
        for odd in [*ODD_VALUES, ("west",), ("east", 5), "east"]:
            self.assertNotIn(odd, answer)
        self.assertFalse(self.store.ask("big", 1))
        self.assertEqual(self.store.ask("sales", 0, name="x").name, "x")

    def test_equality(self):
        answer = self.store.ask("big", 0)
        self.assertEqual(answer, self.store.ask("( big )", day=0, moment=5, name="x"))
        self.assertEqual(answer, Store(self.log).ask("big", 0))
        self.assertEqual(self.store.ask("big | keep shop", 1), self.store.ask("big | keep shop", 1))
        self.assertNotEqual(answer, self.store.ask("big | where 1 < 2", 0))
        self.assertNotEqual(self.store.ask("big", 2), self.store.ask("big", 3))
        self.assertNotEqual(answer, answer.content)
        other = self.log.copy()
        self.log.put("sales", 1, ("east", 1))
        other.put("sales", 0, ("east", 7))
        self.assertNotEqual(answer, self.store.ask("big", 0))
        self.assertNotEqual(self.store.ask("big", 0), Store(other).ask("big", 0))

    def test_uses_and_codes(self):
        self.log.set_code("trend", "many last 2 | group: most = greatest many")
        answer = self.store.ask("trend | join (trend - 1)", 1)
        order = [(table, day) for day in (0, 1) for table in ("sales", "big", "many", "trend")]
        self.assertEqual(answer.uses(), order)
        self.assertEqual(answer.codes(), [(table, day, moment) for day in (0, 1)
                                          for table, moment in (("big", 4), ("many", 5), ("trend", 6))])
        self.assertEqual(self.store.ask("sales last 2", 1).uses(), [("sales", 0), ("sales", 1)])
        self.assertEqual(self.store.ask("sales", 1).codes(), [])
        self.assertEqual(self.store.ask("trend - 2", 1).uses(), [])
        self.assertEqual(self.store.ask("sales | minus sales - 3", 3).uses(), [("sales", 0), ("sales", 3)])
        answer.uses().clear()
        answer.codes().clear()
        self.assertEqual((answer.uses(), len(answer.codes())), (order, 6))

    def test_days_before_the_first_code(self):
        self.log.set_code("later", "big | keep shop", 2)
        answer = self.store.ask("later last 3", 2)
        self.assertEqual(answer.uses(), [("later", 0), ("later", 1), ("sales", 2), ("big", 2), ("later", 2)])
        self.assertEqual(answer.codes(), [("later", 0, None), ("later", 1, None), ("big", 2, 4), ("later", 2, 6)])

    def test_uses_and_codes_are_those_of_the_moment(self):
        early = self.store.ask("big", 0)
        self.log.add_table("new", [("shop", "text"), ("amount", "number")])
        self.log.set_code("big", "new | where 3 < amount")
        late = self.store.ask("big", 0)
        self.assertEqual((early.uses(), early.codes()), ([("sales", 0), ("big", 0)], [("big", 0, 4)]))
        self.assertEqual((late.uses(), late.codes()), ([("big", 0), ("new", 0)], [("big", 0, 7)]))

    def test_earlier_moments_after_all_that_may_happen(self):
        questions = ["big", "many", "big last 3 | join sales", "sales | minus big"]
        wanted = {}
        for step in range(5):
            for moment in range(len(self.log) + 1):
                for question in questions:
                    for day in (0, 1, 2):
                        try:
                            expected = scratch_answer(self.log, question, day, moment)
                        except BadCode:
                            continue
                        answer = self.store.ask(question, day, moment)
                        self.assertEqual(answer.content, expected)
                        first = wanted.setdefault((question, day, moment), answer)
                        self.assertEqual(answer, first)
            self.log.put("sales", step % 2, ("east", 4 * step))
            if step == 1:
                self.log.set_code("big", "sales | where 0 < amount", 1)
                list(self.store.work())
            if step > 1:
                self.store.drop()

    def test_asking_computes_what_is_due_in_the_order_of_needs(self):
        self.store.ask("sales | join (many | with shop = 'east') | join (big - 1)", 1)
        places = [(record.table, record.day) for record in self.store.records()]
        self.assertEqual(places, [("big", 1), ("many", 1), ("big", 0)])
        self.assertEqual(self.store.ask("sales last 2 | keep shop", 1).content.rows, [("east",), ("west",)])
        self.assertEqual(self.store.made, 3)


class NamesTest(unittest.TestCase):
    def setUp(self):
        self.log = sales_log()
        self.store = Store(self.log)

    def test_names_are_given_again(self):
        first = self.store.ask("many", 0, None, "first")
        second = self.store.ask("big", 1, 4, "second")
        self.assertEqual(self.store.names(), ["first", "second"])
        self.log.put("sales", 0, ("east", 1))
        list(self.store.work())
        self.store.drop()
        again = self.store.again("first")
        self.assertEqual((again, again.name, again.moment), (first, "first", 5))
        self.assertEqual(self.store.again(name="second"), second)
        self.assertEqual(len(self.store.ask("many", 0)), 0)
        self.store.names().clear()
        self.assertEqual(self.store.names(), ["first", "second"])

    def test_forgetting(self):
        for name in ("one", "two", "three"):
            self.store.ask("big", 0, 5, name)
        self.assertIsNone(self.store.forget("one"))
        self.assertEqual(self.store.names(), ["two", "three"])
        self.assertEqual(self.store.ask("many", 1, name="one").question, "many")
        self.assertEqual((self.store.names(), self.store.again("one").question), (["two", "three", "one"], "many"))
        self.store.forget(name="two")
        for call in (self.store.again, self.store.forget):
            for odd in [*ODD_VALUES, "two", "", "where", 1]:
                self.assertEqual(fields_of(self, UnknownName, call, odd), {"name": odd})
        self.assertEqual(self.store.names(), ["three", "one"])

    def test_again_computes_what_was_dropped(self):
        answer = self.store.ask("big", 0, 4, "old")
        self.assertEqual(self.store.made, 1)
        self.store.forget("old")
        self.log.put("sales", 0, ("east", 1))
        self.assertEqual(self.store.drop(), 1)
        self.store.ask("big", 0, 4, "old")
        self.assertEqual((self.store.again("old"), self.store.made), (answer, 2))


class ErrorsTest(unittest.TestCase):
    def setUp(self):
        self.store = Store(sales_log())
        self.store.ask("sales", 0, name="taken")

    def test_each_error(self):
        ask = self.store.ask
        for odd in [*ODD_VALUES[1:], -1, 6, "1"]:
            self.assertEqual(fields_of(self, BadMoment, ask, "sales", 0, odd), {"moment": odd})
        for odd in [*ODD_VALUES, 7]:
            self.assertEqual(fields_of(self, BadText, ask, odd, 0), {"at": None})
        self.assertEqual(fields_of(self, BadText, ask, "big |", 0), {"at": 5})
        for text, moment, part in (("none", 5, "none"), ("many", 4, "many")):
            self.assertEqual(fields_of(self, BadCode, ask, text, 0, moment), {"part": ("table", part, 0)})
        for odd in [*ODD_VALUES, -1, 1000, "1"]:
            self.assertEqual(fields_of(self, BadDay, ask, "big", odd), {"value": odd})
        for odd in [*ODD_VALUES[1:], 5, "", "Where", "where", "toolongname"]:
            self.assertEqual(fields_of(self, BadName, ask, "big", 0, None, odd), {"value": odd})
        self.assertEqual(fields_of(self, NameTaken, ask, "big", 0, None, "taken"), {"name": "taken"})
        self.assertEqual((self.store.made, self.store.names()), (0, ["taken"]))

    def test_which_of_two_comes_first(self):
        faults = [("moment", 9, BadMoment), ("question", "|", BadText), ("question", "none", BadCode), ("day", -1, BadDay)]
        for at, (field, worth, error) in enumerate(faults):
            for later, more, _ in faults[at + 1:]:
                if later != field:
                    asked = {"question": "big", "day": 0, field: worth, later: more, "name": "taken"}
                    fields_of(self, error, self.store.ask, **asked)
            for name in (0, "taken"):
                fields_of(self, error, self.store.ask, **{"question": "big", "day": 0, field: worth, "name": name})
        self.assertEqual((self.store.made, self.store.names()), (0, ["taken"]))

    def test_an_empty_log(self):
        store = Store(Log())
        self.assertEqual(fields_of(self, BadCode, store.ask, "sales", 0), {"part": ("table", "sales", 0)})


if __name__ == "__main__":
    unittest.main()
