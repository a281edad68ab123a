"""Trials: what would be if a code were put into the log."""

import unittest

from backfilled.errors import (
    BadCode, BadDay, BadName, BadText, LimitExceeded, NameTaken, TrialOver, UnknownTable,
)
from backfilled.stores import Store
from backfilled.truth import scratch_answer
from stores_support import COLUMNS, LogMaker, sales_log
from tests_support import ODD_VALUES, fields_of


class Escape(Exception):
    """What the tests raise within blocks."""


class TrialTest(unittest.TestCase):
    def setUp(self):
        self.log = sales_log()
        self.store = Store(self.log)

    def test_answers_for_a_table_that_is_there(self):
        trial = self.store.trial("big", "sales | where 9 < amount")
        answer = trial.ask("many", 0)
        self.assertEqual((answer.content.rows, answer.moment, answer.name), ([], 6, None))
        self.assertEqual(answer.uses(), [("sales", 0), ("big", 0), ("many", 0)])
        self.assertEqual(answer.codes(), [("big", 0, 6), ("many", 0, 5)])
        self.assertEqual((len(self.log), self.store.names()), (5, []))
        self.assertEqual(self.store.ask("many", 0).content.rows, [(1,)])
        self.assertEqual(trial.ask(question="big", day=0).content.rows, [])

    def test_answers_for_a_new_table(self):
        trial = self.store.trial("new", "many | with twice = 2 * many", 1)
        self.log.put("sales", 1, ("north", 9))
        self.assertEqual(trial.ask("new", 1).content.rows, [(1, 2)])
        self.assertEqual(trial.ask("new", 0).codes(), [("new", 0, None)])
        for moment in (None, 6):
            fields_of(self, BadCode, self.store.ask, "new", 0, moment)
        self.assertEqual(list(self.log.tables()), ["sales", "big", "many"])

    def test_days_of_the_code(self):
        trial = self.store.trial(table="big", text="sales | where amount < 9", day=1)
        self.assertEqual((len(trial.ask("big", 0)), len(trial.ask("big", 1)), trial.compare("big", 0).come.rows), (1, 1, []))
        self.assertEqual(trial.compare(table="many", day=1).come.rows, [(1,)])
        self.assertEqual(trial.promote(), 6)
        self.assertEqual(self.log[6], ("code", "big", "sales | where amount < 9", 1))

    def test_compare(self):
        trial = self.store.trial("big", "sales | where amount < 5")
        difference = trial.compare("many", 0)
        self.assertEqual((difference.come.rows, difference.gone.rows), ([], [(1,)]))
        self.assertEqual(trial.compare("many", 1).come.rows, [(1,)])
        self.assertEqual(len(trial.compare("sales", 1)), 0)
        self.assertEqual(len(trial.compare("big", 999)), 0)
        fields = fields_of(self, UnknownTable, self.store.trial("new", "sales").compare, "new", 0)
        self.assertEqual(fields, {"name": "new"})

    def test_records_stay_and_serve_the_store(self):
        trial = self.store.trial("big", "sales | where 0 < amount")
        trial.ask("many", 0)
        trial.ask("many", 0)
        self.assertEqual((self.store.made, len(self.store.records()), self.store.state_at("big", 0)), (2, 2, "due"))
        self.assertEqual(len(trial.compare("many", 0)), 0)
        self.assertEqual(self.store.made, 3)
        trial.promote()
        self.assertEqual((self.store.state_at("many", 0), self.store.due()), ("fresh", [("big", 1)]))
        self.assertEqual(len(self.store.ask("many", 0)), 1)
        self.assertEqual(self.store.made, 3)

    def test_records_of_a_trial_that_is_over_are_not_needed(self):
        trial = self.store.trial("big", "sales | where 0 < amount")
        trial.ask("big", 1)
        trial.end()
        self.assertEqual((len(self.store.records()), self.store.needed(), self.store.drop()), (1, [], 1))

    def test_dropping_during_a_trial(self):
        trial = self.store.trial("big", "sales | where 0 < amount")
        answer = trial.ask("many", 1)
        self.assertEqual(self.store.drop(), 2)
        self.assertEqual((trial.ask("many", 1), self.store.made), (answer, 4))

    def test_the_log_grows_meanwhile(self):
        trial = self.store.trial("big", "sales | where 0 < amount")
        first = trial.ask("big", 0)
        self.log.put("sales", 0, ("north", 9))
        second = trial.ask("big", 0)
        self.assertEqual((first.moment, len(first), first.uses()), (6, 1, [("sales", 0), ("big", 0)]))
        self.assertEqual((second.moment, len(second)), (7, 2))
        self.log.add_table("other", COLUMNS)
        self.assertEqual((first.codes(), second.codes()), ([("big", 0, 6)], [("big", 0, 7)]))
        self.assertEqual(trial.ask("other", 0).moment, 8)
        self.assertEqual((trial.promote(), len(self.log)), (8, 8))

    def test_promoting_makes_the_answers_of_the_trial(self):
        trial = self.store.trial("big", "sales | where 0 < amount")
        answers = [trial.ask(table, day) for table in ("big", "many", "sales") for day in (0, 1, 2)]
        self.assertEqual(trial.promote(), 6)
        for answer in answers:
            self.assertEqual(self.store.ask(answer.question, answer.day), answer)
        for answer in answers:
            self.assertEqual(scratch_answer(self.log, answer.question, answer.day, 6), answer.content)

    def test_over(self):
        for finish in ("end", "promote"):
            trial = self.store.trial("big", "sales | where 0 < amount")
            trial.ask("big", 0)
            if finish == "end":
                self.assertIsNone(trial.end())
            else:
                trial.promote()
            for call, *values in ((trial.ask, "|", -1), (trial.compare, None, -1), (trial.promote,), (trial.end,)):
                self.assertEqual(fields_of(self, TrialOver, call, *values), {})
        self.assertEqual(len(self.log), 6)

    def test_with(self):
        with self.store.trial("big", "sales | where 0 < amount") as trial:
            self.assertEqual(len(trial.ask("big", 1)), 1)
        fields_of(self, TrialOver, trial.ask, "big", 1)
        with self.assertRaises(Escape):
            with self.store.trial("big", "sales | where 0 < amount") as trial:
                raise Escape
        fields_of(self, TrialOver, trial.end)
        with self.store.trial("big", "sales | where 0 < amount") as trial:
            self.assertEqual(trial.promote(), 6)
        fields_of(self, TrialOver, trial.end)
        with self.store.trial("big", "sales") as trial:
            trial.end()
        self.assertEqual(len(self.log), 6)
        with self.store.trial("big", "sales") as trial:
            fields_of(self, BadDay, trial.ask, "big", -1)
            trial.ask("big", 1)

    def test_several_trials(self):
        one, other = self.store.trial("big", "sales"), self.store.trial("big", "sales | where amount < 0")
        self.assertEqual((len(one.ask("big", 1)), len(other.ask("big", 1))), (1, 0))
        one.promote()
        self.assertEqual((other.ask("big", 1).moment, other.compare("big", 1).gone.rows), (7, [("west", 2)]))

    def test_random_trials(self):
        for seed in range(40):
            log = LogMaker(seed).grow(10)
            entries = [entry for entry in log.entries() if entry[0] == "code"]
            if not entries:
                continue
            store = Store(log)
            list(store.work())
            table, text, day = entries[seed % len(entries)][1:]
            with store.trial(table, text, day) as trial:
                answers = [trial.ask(name, on) for name in log.tables() for on in (0, 1, 3)]
                log.put("sales", 0, ("east", seed))
                again = [trial.ask(name, on) for name in log.tables() for on in (0, 1, 3)]
                moment = trial.promote()
            for answer in again:
                self.assertEqual(store.ask(answer.question, answer.day, moment), answer)
            shown = log.copy(moment - 2)
            shown.set_code(table, text, day)
            for answer in answers:
                self.assertEqual(scratch_answer(shown, answer.question, answer.day), answer.content)


class TrialErrorsTest(unittest.TestCase):
    def setUp(self):
        self.log = sales_log()
        self.store = Store(self.log)

    def test_of_making_a_trial(self):
        trial = self.store.trial
        for odd in [*ODD_VALUES, 1, "", "where"]:
            self.assertEqual(fields_of(self, BadName, trial, odd, "|", -1), {"value": odd})
        self.assertEqual(fields_of(self, NameTaken, trial, "sales", "|", -1), {"name": "sales"})
        for odd in [*ODD_VALUES, 1]:
            self.assertEqual(fields_of(self, BadText, trial, "big", odd, -1), {"at": None})
        self.assertEqual(fields_of(self, BadText, trial, "big", "sales |", -1), {"at": 7})
        for odd in [*ODD_VALUES, -1, 1000]:
            self.assertEqual(fields_of(self, BadDay, trial, "big", "none", odd), {"value": odd})
        self.assertEqual(fields_of(self, BadCode, trial, "big", "none"), {"part": ("table", "none", 0)})
        for text in ("many", "sales | keep shop", "big", "sales | union big"):
            self.assertEqual(fields_of(self, BadCode, trial, "big", text), {"part": None})
        for at in range(17):
            self.log.add_table("t" + chr(97 + at), COLUMNS)
        self.assertEqual(fields_of(self, LimitExceeded, trial, "new", "sales"), {"limit": 20})
        self.assertEqual((len(self.log), self.store.made), (22, 0))

    def test_of_asking_and_comparing(self):
        trial = self.store.trial("new", "sales")
        self.assertEqual(fields_of(self, BadText, trial.ask, "new |", -1), {"at": 5})
        self.assertEqual(fields_of(self, BadCode, trial.ask, "none", -1), {"part": ("table", "none", 0)})
        for odd in [*ODD_VALUES, -1, 1000]:
            self.assertEqual(fields_of(self, BadDay, trial.ask, "new", odd), {"value": odd})
            self.assertEqual(fields_of(self, BadDay, trial.compare, "big", odd), {"value": odd})
            self.assertEqual(fields_of(self, UnknownTable, trial.compare, odd, odd), {"name": odd})
        self.assertEqual(fields_of(self, UnknownTable, trial.compare, "new", 0), {"name": "new"})
        self.assertEqual(self.store.made, 0)

    def check_refused(self, trial, error, fields):
        """Each method but end raises, ahead of the errors of its arguments, and the trial is not over."""
        many, made = len(self.log), self.store.made
        for call, *values in ((trial.ask, "|", -1), (trial.ask, "sales", 0), (trial.compare, None, -1), (trial.promote,)):
            self.assertEqual(fields_of(self, error, call, *values), fields)
        self.assertEqual((len(self.log), self.store.made), (many, made))
        self.assertIsNone(trial.end())
        fields_of(self, TrialOver, trial.ask, "|", -1)

    def test_a_table_of_the_name_came(self):
        trial = self.store.trial("new", "sales")
        self.log.add_table("new", COLUMNS)
        self.check_refused(trial, NameTaken, {"name": "new"})

    def test_a_code_with_other_columns_came(self):
        trial = self.store.trial("new", "sales")
        answer = trial.ask("new", 0)
        self.log.set_code("new", "sales | keep shop")
        self.check_refused(trial, BadCode, {"part": None})
        self.assertEqual((answer.content.rows, answer.uses()), ([("east", 5)], [("sales", 0), ("new", 0)]))

    def test_a_circle_came(self):
        self.log.set_code("other", "sales")
        trial = self.store.trial("other", "big")
        self.log.set_code("big", "other")
        self.check_refused(trial, BadCode, {"part": None})

    def test_no_room_is_left(self):
        trial = self.store.trial("new", "sales")
        for at in range(17):
            self.log.add_table("t" + chr(97 + at), COLUMNS)
        self.check_refused(trial, LimitExceeded, {"limit": 20})


if __name__ == "__main__":
    unittest.main()
