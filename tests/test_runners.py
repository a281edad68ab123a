"""Claims: which partition is claimed, and what becomes of claims."""

import unittest

from backfilled.errors import BadName, NotOpen
from backfilled.stores import Store
from backfilled.truth import from_scratch
from stores_support import sales_log
from tests_support import ODD_VALUES, fields_of


def place(claim):
    return None if claim is None else (claim.table, claim.day)


class ClaimTest(unittest.TestCase):
    def setUp(self):
        self.log = sales_log()
        self.store = Store(self.log)

    def test_the_first_due_partition_that_nobody_claimed(self):
        claims = [self.store.claim("ann"), self.store.claim("ann"), self.store.claim("ben")]
        self.assertEqual([place(claim) for claim in claims], [("big", 0), ("big", 1), None])
        claims[1].finish()
        self.assertEqual(place(self.store.claim("ben")), ("many", 1))
        claims[0].finish()
        self.assertEqual(place(self.store.claim("ben")), ("many", 0))
        self.assertIsNone(self.store.claim("ann"))

    def test_attributes(self):
        claim = self.store.claim("ann")
        self.assertEqual((claim.number, claim.runner, claim.table, claim.day), (1, "ann", "big", 0))
        self.assertEqual((claim.code, claim.state), ("sales | where 3 < amount", "open"))
        self.assertEqual(claim.inputs, (("sales", 0, self.log.raw("sales", 0)),))
        self.assertEqual(self.store.made, 0)

    def test_numbers_and_open_claims(self):
        first, second = self.store.claim("ann"), self.store.claim("ben")
        self.assertIsNone(self.store.claim("cy"))
        first.give_up()
        third = self.store.claim("cy")
        self.assertEqual([claim.number for claim in (first, second, third)], [1, 2, 3])
        self.assertEqual(place(third), ("big", 0))
        self.assertEqual([claim.number for claim in self.store.claims()], [2, 3])
        second.finish()
        self.assertEqual([claim.number for claim in self.store.claims()], [3])
        self.store.claims().clear()
        self.assertEqual(len(self.store.claims()), 1)

    def test_the_same_partition_with_other_inputs(self):
        first = self.store.claim("ann")
        self.log.put("sales", 0, ("west", 9))
        second = self.store.claim("ben")
        self.assertEqual((place(second), second.inputs[0][2].rows), (("big", 0), [("east", 5), ("west", 9)]))
        self.assertEqual((first.finish(), first.run().rows), (True, [("east", 5)]))
        self.assertEqual(self.store.state_at("big", 0), "due")
        self.assertEqual(self.store.state_at("big", 0, 5), "fresh")
        self.assertEqual((second.finish(), second.run().rows), (True, [("east", 5), ("west", 9)]))
        self.log.delete("sales", 0, ("west",))
        self.assertEqual(self.store.content_at("big", 0).rows, [("east", 5)])

    def test_the_same_partition_with_another_code(self):
        first = self.store.claim("ann")
        self.log.set_code("big", "sales | where 4 < amount")
        second = self.store.claim("ben")
        self.assertEqual((place(second), second.code), (("big", 0), "sales | where 4 < amount"))
        self.log.set_code("big", "sales | where 3 < amount")
        self.assertEqual(place(self.store.claim("cy")), ("big", 1))
        self.assertTrue(first.finish() and second.finish())
        self.assertEqual(self.store.state_at("big", 0), "fresh")

    def test_inputs_that_are_equal_again(self):
        claim = self.store.claim("ann")
        self.log.put("sales", 0, ("west", 9))
        self.log.delete("sales", 0, ("west",))
        self.assertEqual(place(self.store.claim("ben")), ("big", 1))
        self.assertTrue(claim.finish())
        self.assertEqual(self.store.state_at("big", 0), "fresh")

    def test_work_between_claiming_and_finishing(self):
        claim = self.store.claim("ann")
        list(self.store.work())
        self.assertEqual((claim.finish(), claim.state, self.store.made), (False, "done", 4))
        self.assertEqual([record.table for record in self.store.records()], ["big", "many", "big", "many"])

    def test_the_record_of_a_finished_claim(self):
        claim = self.store.claim("ann")
        self.assertTrue(claim.finish())
        record = self.store.records()[0]
        self.assertEqual((record.table, record.day, record.code), ("big", 0, claim.code))
        self.assertEqual((record.inputs, record.content), (claim.inputs, from_scratch(self.log, "big", 0)))

    def test_run_in_each_state_and_after_dropping(self):
        done, given = self.store.claim("ann"), self.store.claim("ben")
        self.assertEqual((done.run().rows, given.run().rows), ([("east", 5)], []))
        self.assertEqual(self.store.made, 0)
        done.finish()
        given.give_up()
        self.log.put("sales", 0, ("east", 1))
        self.assertEqual(self.store.drop(), 1)
        self.assertEqual((done.state, given.state), ("done", "gone"))
        self.assertEqual((done.run().rows, given.run().rows), ([("east", 5)], []))
        self.assertEqual((self.store.made, self.store.records()), (1, []))

    def test_dropped_records_are_made_again(self):
        claim = self.store.claim("ann")
        list(self.store.work())
        self.log.put("sales", 0, ("east", 1))
        self.assertEqual(self.store.drop(), 2)
        self.assertTrue(claim.finish())
        self.assertEqual(self.store.made, 5)

    def test_not_open(self):
        done, gone = self.store.claim("ann"), self.store.claim("ann")
        self.assertTrue(done.finish())
        self.assertIsNone(gone.give_up())
        for claim, state in ((done, "done"), (gone, "gone")):
            for call in (claim.finish, claim.give_up):
                self.assertEqual(fields_of(self, NotOpen, call), {"number": claim.number})
            self.assertEqual(claim.state, state)
        self.assertEqual(self.store.made, 1)

    def test_crash(self):
        claims = [self.store.claim("ann"), self.store.claim("ben")]
        claims[1].finish()
        claims += [self.store.claim("ann")]
        self.assertEqual((self.store.crash("ben"), self.store.crash("cy")), (0, 0))
        self.assertEqual((self.store.crash(runner="ann"), [claim.state for claim in claims]), (2, ["gone", "done", "gone"]))
        self.assertEqual((self.store.claims(), self.store.crash("ann")), ([], 0))
        self.assertEqual((place(self.store.claim("ben")), self.store.crash("ben")), (("big", 0), 1))
        self.assertEqual(self.store.claim(runner="ann").number, 5)

    def test_bad_names(self):
        for odd in [*ODD_VALUES, 1, "", "A", "toolongname", "where", "a b"]:
            for call in (self.store.claim, self.store.crash):
                self.assertEqual(fields_of(self, BadName, call, odd), {"value": odd})
        self.assertEqual(self.store.claims(), [])
        self.assertEqual(self.store.claim("ann").number, 1)

    def test_no_days_and_no_tables(self):
        self.log.set_code("big", "sales - 1 | where 3 < amount", 1)
        self.assertEqual(place(self.store.claim("ann")), ("big", 0))
        empty = Store(self.log.copy(1))
        self.assertIsNone(empty.claim("ann"))


if __name__ == "__main__":
    unittest.main()
