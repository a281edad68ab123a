"""Replicas of logs, their stamps, and stores that take over records."""

import random
import unittest

from backfilled.contents import Content
from backfilled.entries import add_entry
from backfilled.errors import (
    BadCode, BadColumns, BadDay, BadName, BadNumber, BadRow, BadText, BackfilledError, LimitExceeded, NameTaken, UnknownTable,
)
from backfilled.journals import recover
from backfilled.logs import Log
from backfilled.replicas import Replica, exchange, rebased
from backfilled.stores import Store
from backfilled.truth import from_scratch
from stores_support import COLUMNS, LogMaker, sales_log, texts, written_anew
from tests_support import ODD_VALUES, fields_of

TABLE = ("table", "t", [("a", "number")], 1)


def naive_log(stamped):
    """The log of stamped entries, and the stamps of those that are skipped."""
    log, skipped = Log(), []
    for clock, site, entry in sorted(stamped, key=lambda item: item[:2]):
        try:
            add_entry(log, entry)
        except BackfilledError:
            skipped.append((clock, site, entry))
    return log, skipped


def random_entry(chance):
    """An entry that often cannot be added."""
    table = chance.choice(["t", "u", "v"])
    pick = chance.randrange(8)
    if pick < 2:
        return ("table", table, chance.choice([[("a", "number")], [("a", "number"), ("b", "text")]]), 1)
    if pick < 5:
        row = chance.choice([(1,), (2,), (1, "x"), (2, "")])
        return ("put", table, chance.randrange(3), row)
    if pick == 5:
        return ("delete", table, chance.randrange(3), (1,))
    return ("code", table, chance.choice(["t", "u | where a < 2", "t | keep a", "v - 1"]), chance.randrange(2))


class ReplicaTest(unittest.TestCase):
    def setUp(self):
        self.replica = Replica(site="here")

    def test_a_new_one(self):
        replica = self.replica
        self.assertEqual((replica.site, replica.clock(), replica.stamped(), replica.skipped()), ("here", 0, [], []))
        self.assertTrue(replica.log_now() == Log())
        for odd in [*ODD_VALUES, "", "where", "Here", 1]:
            self.assertEqual(fields_of(self, BadName, Replica, odd), {"value": odd})

    def test_entries(self):
        replica = self.replica
        self.assertEqual(replica.add_table(name="t", columns=[("a", "number"), ("b", "text")], keys=2), 1)
        self.assertEqual(replica.put(table="t", day=3, row=(1, "x")), 2)
        self.assertEqual(replica.delete(table="t", day=3, key=(1, "x")), 3)
        self.assertEqual(replica.set_code(table="u", text="(t)|keep a", day=2), 4)
        self.assertEqual((replica.set_code("w", "t"), replica.add_table("v", [("a", "number")])), (5, 6))
        entries = [
            ("table", "t", [("a", "number"), ("b", "text")], 2), ("put", "t", 3, (1, "x")), ("delete", "t", 3, (1, "x")),
            ("code", "u", "t | keep a", 2), ("code", "w", "t", 0), ("table", "v", [("a", "number")], 1),
        ]
        self.assertEqual(replica.stamped(), [(at + 1, "here", entry) for at, entry in enumerate(entries)])
        self.assertEqual((replica.log_now().entries(), replica.skipped()), (entries, []))
        self.assertEqual([replica.moment_for(clock, "here") for clock in range(8)], [None, 1, 2, 3, 4, 5, 6, None])

    def test_errors_of_a_log(self):
        replica = self.replica
        replica.add_table("t", [("a", "number")])
        for error, call, values, fields in [
            (BadName, replica.add_table, ("where", None), {"value": "where"}), (NameTaken, replica.add_table, ("t", None), {"name": "t"}),
            (BadColumns, replica.add_table, ("u", ()), {"value": ()}), (BadNumber, replica.add_table, ("u", [("a", "number")], 2), {"value": 2}),
            (UnknownTable, replica.put, ("u", -1, None), {"name": "u"}), (BadDay, replica.put, ("t", -1, None), {"value": -1}),
            (BadRow, replica.put, ("t", 0, (True,)), {"value": (True,)}), (UnknownTable, replica.delete, (None, -1, None), {"name": None}),
            (BadDay, replica.delete, ("t", 1000, None), {"value": 1000}), (BadRow, replica.delete, ("t", 0, ()), {"value": ()}),
            (BadName, replica.set_code, ("where", None), {"value": "where"}), (NameTaken, replica.set_code, ("t", None), {"name": "t"}),
            (BadText, replica.set_code, ("u", "t |"), {"at": 3}), (BadDay, replica.set_code, ("u", "w", -1), {"value": -1}),
            (BadCode, replica.set_code, ("u", "w"), {"part": ("table", "w", 0)}), (BadCode, replica.set_code, ("u", "u"), {"part": ("table", "u", 0)}),
        ]:
            self.assertEqual(fields_of(self, error, call, *values), fields)
            self.assertEqual((replica.clock(), len(replica.stamped()), len(replica.log_now())), (1, 1, 1))
        for at in range(19):
            replica.add_table("x" + chr(97 + at), [("a", "number")])
        self.assertEqual(fields_of(self, LimitExceeded, replica.add_table, "u", [("a", "number")]), {"limit": 20})
        self.assertEqual(fields_of(self, LimitExceeded, replica.set_code, "u", "t"), {"limit": 20})

    def test_clocks(self):
        replica = self.replica
        replica.add_table("t", [("a", "number")])
        self.assertEqual(replica.merge([(40, "there", ("put", "t", 0, (1,))), (7, "there", ("put", "none", 0, (1,)))]), 2)
        self.assertEqual((replica.clock(), replica.put("t", 0, (2,)), replica.clock()), (40, 41, 41))
        self.assertEqual(replica.log_now().entries(), [TABLE, ("put", "t", 0, (1,)), ("put", "t", 0, (2,))])
        self.assertEqual([replica.moment_for(*stamp) for stamp in [(1, "here"), (7, "there"), (40, "there"), (41, "here"), (41, "there")]],
                         [1, None, 2, 3, None])
        greatest = 10 ** 39
        replica.merge([(greatest, "there", ("put", "t", 0, (1,)))])
        self.assertEqual(replica.put("t", 0, (2,)), greatest + 1)

    def test_sites_are_ordered_as_texts(self):
        self.replica.merge([(1, "b", ("put", "t", 0, (1,))), (1, "aa", TABLE), (1, "a", ("put", "t", 0, (2,)))])
        self.assertEqual([item[1] for item in self.replica.stamped()], ["a", "aa", "b"])
        self.assertEqual([item[1] for item in self.replica.skipped()], ["a"])

    def test_what_is_told_is_new(self):
        replica = self.replica
        columns = [("a", "number")]
        replica.add_table("t", columns)
        columns.append(("b", "text"))
        entry = ("table", "u", [("a", "number")], 1)
        replica.merge([(2, "there", entry), (3, "there", ("table", "u", [("a", "number")], 1))])
        entry[2].append(("b", "text"))
        replica.log_now().put("t", 0, (1,))
        for told in (replica.stamped(), replica.skipped()):
            for _, _, found in told:
                found[2].append(("c", "text"))
            told.clear()
        wanted = [(1, "here", TABLE), (2, "there", ("table", "u", [("a", "number")], 1)), (3, "there", ("table", "u", [("a", "number")], 1))]
        self.assertEqual((replica.stamped(), replica.skipped()), (wanted, wanted[2:]))
        self.assertEqual(replica.log_now().entries(), [entry for _, _, entry in wanted[:2]])

    def test_moment_for_any_values(self):
        self.replica.add_table("t", [("a", "number")])
        for clock in [*ODD_VALUES, 0, -1, 2, "1", 1.0]:
            self.assertIsNone(self.replica.moment_for(clock=clock, site="here"))
        for site in [*ODD_VALUES, "there", "", 1]:
            self.assertIsNone(self.replica.moment_for(1, site))
        self.assertEqual(self.replica.moment_for(1, "here"), 1)


class MergeTest(unittest.TestCase):
    def test_skipped_entries_that_are_possible_again(self):
        replica = Replica("here")
        put = (5, "there", ("put", "t", 0, (1,)))
        self.assertEqual(replica.merge(entries=[put]), 1)
        self.assertEqual((replica.skipped(), replica.moment_for(5, "there")), ([put], None))
        self.assertEqual(replica.merge([(4, "far", TABLE)]), 1)
        self.assertEqual((replica.skipped(), replica.moment_for(5, "there"), replica.moment_for(4, "far")), ([], 2, 1))
        other = (1, "far", ("table", "t", [("b", "text")], 1))
        self.assertEqual(replica.merge([other, put]), 1)
        self.assertEqual(replica.skipped(), [(4, "far", TABLE), put])
        self.assertEqual(replica.log_now().entries(), [other[2]])

    def test_any_order_in_parts_and_repeatedly(self):
        for seed in range(60):
            chance = random.Random(seed)
            stamped = {(chance.randrange(1, 12), chance.choice(["a", "b", "c"])): random_entry(chance) for _ in range(20)}
            stamped = [(*stamp, entry) for stamp, entry in stamped.items()]
            log, skipped = naive_log(stamped)
            for site in ("one", "two"):
                replica = Replica(site)
                chance.shuffle(stamped)
                new = 0
                while new < len(stamped):
                    part = [chance.choice(stamped) for _ in range(chance.randrange(6))]
                    before = len(replica.stamped())
                    added = replica.merge(part)
                    self.assertEqual(len(replica.stamped()), before + added)
                    new += added
                self.assertEqual(replica.stamped(), sorted(stamped, key=lambda item: item[:2]))
                self.assertTrue(replica.log_now() == log)
                self.assertEqual(replica.skipped(), skipped)
                self.assertEqual(replica.merge(stamped), 0)
                moments = [replica.moment_for(clock, site) for clock, site, _ in replica.stamped()]
                self.assertEqual([moment for moment in moments if moment], list(range(1, len(log) + 1)))
                self.assertEqual([item[2] for item, moment in zip(replica.stamped(), moments) if moment], log.entries())

    def test_two_sites_that_go_on(self):
        for seed in range(30):
            chance = random.Random(seed)
            replicas = [Replica("one"), Replica("two"), Replica("three")]
            known = [[], [], []]
            for _ in range(30):
                at = chance.randrange(3)
                replica = replicas[at]
                if chance.random() < 0.6:
                    entry = random_entry(chance)
                    before = replica.stamped()
                    call = {"table": replica.add_table, "put": replica.put, "delete": replica.delete, "code": replica.set_code}[entry[0]]
                    try:
                        clock = call(*entry[1:])
                    except BackfilledError as error:
                        fields = fields_of(self, type(error), add_entry, replica.log_now(), entry)
                        self.assertEqual((replica.stamped(), vars(error)), (before, fields))
                        continue
                    self.assertEqual(clock, max([item[0] for item in before], default=0) + 1)
                    known[at].append((clock, replica.site, entry))
                else:
                    other = chance.randrange(3)
                    new = [[item for item in known[pair[0]] if item not in known[pair[1]]] for pair in [(other, at), (at, other)]]
                    self.assertEqual(exchange(replica, replicas[other]), (len(new[0]), len(new[1])))
                    known[at] += new[0]
                    known[other] += new[1] if other != at else []
                for found, replica in zip(known, replicas):
                    log, skipped = naive_log(found)
                    self.assertTrue(replica.log_now() == log)
                    self.assertEqual((replica.skipped(), len(replica.stamped())), (skipped, len(found)))

    def test_what_is_no_list(self):
        replica = Replica("here")
        for odd in [odd for odd in [*ODD_VALUES, 1, "", ((1, "a", TABLE),)] if not isinstance(odd, list)]:
            fields = fields_of(self, BadRow, replica.merge, odd)
            self.assertIs(fields["value"], odd)
        self.assertEqual(replica.merge([]), 0)

    def test_items_of_other_kinds(self):
        replica = Replica("here")
        replica.add_table("t", [("a", "number")])
        good = (9, "there", ("put", "t", 0, (1,)))
        bad = [
            *ODD_VALUES, 1, "", (1, "a"), (1, "a", TABLE, 1), [1, "a", TABLE], (0, "a", TABLE), (-1, "a", TABLE), (True, "a", TABLE),
            ("1", "a", TABLE), (1.0, "a", TABLE), (None, "a", TABLE), (1, "", TABLE), (1, "A", TABLE), (1, "where", TABLE),
            (1, None, TABLE), (1, ["a"], TABLE), (1, "a", None), (1, "a", list(TABLE)), (1, "a", TABLE[:3]), (1, "a", (*TABLE, 1)), (1, "a", ()),
        ]
        entries = [
            ("other", "t", 0, (1,)), ("Table", "t", [("a", "number")], 1), (None, "t", 0, (1,)), ([], "t", 0, (1,)),
            ("table", "where", [("a", "number")], 1), ("table", None, [("a", "number")], 1), ("table", "t", (("a", "number"),), 1),
            ("table", "t", [], 1), ("table", "t", [("a", "thing")], 1), ("table", "t", [["a", "number"]], 1),
            ("table", "t", [("a", "number"), ("a", "text")], 1), ("table", "t", [("a", "number")], 0), ("table", "t", [("a", "number")], 2),
            ("table", "t", [("a", "number")], True), ("table", "t", [("a", "number")], "1"), ("table", "t", [("a", "number")], None),
            ("table", "t", None, 1), ("put", "t", -1, (1,)), ("put", "t", 1000, (1,)), ("put", "t", True, (1,)), ("put", "t", None, (1,)),
            ("put", "t", 0, ()), ("put", "t", 0, [1]), ("put", "t", 0, (True,)), ("put", "t", 0, (1.5,)), ("put", "t", 0, ("A",)),
            ("put", "t", 0, ("a" * 21,)), ("put", "t", 0, (None,)), ("put", "t", 0, tuple(range(11))), ("put", "t", 0, 1),
            ("put", "T", 0, (1,)), ("put", ["t"], 0, (1,)), ("delete", "t", 0, ()), ("delete", "t", 0, (b"a",)), ("delete", "t", "0", (1,)),
            ("delete", "t", 0, tuple("abcdefghijk")), ("delete", "last", 0, (1,)), ("code", "t", "u|keep a", 0), ("code", "t", "(u)", 0),
            ("code", "t", "u ", 0), ("code", "t", "u |", 0), ("code", "t", "", 0), ("code", "t", None, 0), ("code", "t", 1, 0),
            ("code", "t", "u", -1), ("code", "t", "u", 1000), ("code", "t", "u", None), ("code", "group", "u", 0), ("code", "t", ["u"], 0),
            ("code", "t", "u" * 601, 0), ("code", "t", "u | where a < -0", 0),
        ]
        for item in [*bad, *[(9, "there", entry) for entry in entries]]:
            for ahead in ([], [good], [(2, "far", ("code", "any", "where" + "ver", 0))]):
                fields = fields_of(self, BadRow, replica.merge, [*ahead, item, None, good])
                self.assertIs(fields["value"], item)
                self.assertEqual((replica.stamped(), replica.clock(), len(replica.log_now())), ([(1, "here", TABLE)], 1, 1))
        fine = [
            (2, "a", ("table", "t", [(name, "text") for name in "abcdefghij"], 10)), (3, "a", ("put", "none", 999, tuple(range(10)))),
            (4, "a", ("delete", "none", 0, ("", -5))), (5, "a", ("code", "u", "no | keep such | where thing < -1", 999)),
            (6, "a", ("put", "t", 0, (10 ** 40 - 1,))),
        ]
        self.assertEqual(replica.merge(fine), 5)
        self.assertEqual(replica.skipped(), fine[:4])

    def test_items_that_differ(self):
        replica = Replica("here")
        replica.add_table("t", [("a", "number")])
        new = (2, "there", ("put", "t", 0, (1,)))
        for entry in [("table", "t", [("b", "number")], 1), ("table", "u", [("a", "number")], 1), ("put", "t", 0, (1,)), ("code", "t", "u", 0)]:
            item = (1, "here", entry)
            self.assertIs(fields_of(self, BadRow, replica.merge, [new, item])["value"], item)
        item = (2, "there", ("put", "t", 0, (2,)))
        self.assertIs(fields_of(self, BadRow, replica.merge, [new, (3, "far", TABLE), item])["value"], item)
        self.assertIs(fields_of(self, BadRow, replica.merge, [item, new])["value"], new)
        self.assertEqual(replica.stamped(), [(1, "here", TABLE)])
        self.assertEqual(replica.merge([new, (1, "here", ("table", "t", [("a", "number")], 1)), new]), 1)

    def test_exchange(self):
        one, other = Replica("one"), Replica("other")
        one.add_table("t", [("a", "number")])
        other.add_table("u", [("b", "text")])
        other.put("u", 0, ("x",))
        self.assertEqual(exchange(one=one, other=other), (2, 1))
        self.assertEqual(one.stamped(), other.stamped())
        self.assertEqual((exchange(one, other), exchange(one, one)), ((0, 0), (0, 0)))

    def test_exchange_of_replicas_that_differ(self):
        one, other = Replica("same"), Replica("same")
        one.add_table("t", [("a", "number")])
        other.add_table("u", [("b", "text")])
        other.put("u", 0, ("x",))
        before = (one.stamped(), other.stamped())
        self.assertEqual(fields_of(self, BadRow, exchange, one, other), {"value": before[1][0]})
        self.assertEqual((one.stamped(), other.stamped()), before)


class RebasedTest(unittest.TestCase):
    def setUp(self):
        self.log = sales_log()
        self.store = Store(self.log)
        list(self.store.work())

    def test_an_equal_log(self):
        other = rebased(store=self.store, log=self.log.copy())
        self.assertEqual((other.records(), other.made, other.is_done(), other.due()), (self.store.records(), 0, True, []))
        self.assertEqual((other.compute("many", 0).rows, other.made, list(other.work())), ([(1,)], 0, []))
        self.assertTrue(other.log == self.log and other.log is not self.log)

    def test_the_very_log(self):
        log = self.log.copy()
        self.assertIs(rebased(self.store, log).log, log)
        self.assertEqual(rebased(Store(self.log), log).records(), [])

    def test_neither_changes_by_the_other_ones_work(self):
        log = self.log.copy()
        other = rebased(self.store, log)
        log.put("sales", 0, ("west", 9))
        self.assertEqual((list(other.work()), other.made), ([("big", 0), ("many", 0)], 2))
        self.assertEqual((len(self.store.records()), self.store.made, len(other.records())), (4, 4, 6))
        self.assertEqual((other.drop(), len(other.records()), len(self.store.records())), (2, 4, 4))
        self.log.put("sales", 1, ("east", 8))
        self.assertEqual((list(self.store.work()), len(other.records())), ([("big", 1), ("many", 1)], 4))
        self.assertEqual((self.store.drop(), len(other.records())), (2, 4))
        self.assertEqual(other.names(), [])

    def test_logs_that_go_on_otherwise(self):
        log = self.log.copy(3)
        log.set_code("many", "sales | group: many = count")
        log.set_code("big", "sales | where 3 < amount")
        other = rebased(self.store, log)
        self.assertEqual([other.state_at("big", day) for day in (0, 1)], ["fresh", "fresh"])
        self.assertEqual([other.state_at("many", day) for day in (0, 1)], ["due", "due"])
        self.assertEqual(other.due(), [("many", 0), ("many", 1)])
        self.assertEqual(len(other.needed()), 2)
        self.assertEqual((list(other.work()), other.drop(), other.made), ([("many", 0), ("many", 1)], 2, 2))

    def test_other_contents(self):
        log = self.log.copy(1)
        log.put("sales", 0, ("west", 2))
        for entry in self.log.entries()[3:]:
            add_entry(log, entry)
        other = rebased(self.store, log)
        self.assertEqual((other.state_at("big", 0), other.state_at("many", 0)), ("due", "unknown"))
        self.assertEqual((other.compute("many", 0).rows, other.made), ([], 2))
        self.assertEqual(other.state_at("big", 1), "due")

    def test_tables_with_other_columns(self):
        self.log.set_code("old", "sales - 3")
        self.store.compute("old", 2)
        self.store.compute("old", 0)
        log = Log()
        log.add_table("sales", [("b", "number")])
        log.put("sales", 2, (1,))
        log.set_code("old", "sales - 3")
        other = rebased(self.store, log)
        self.assertEqual([other.state_at("old", day) for day in range(3)], ["due", "due", "due"])
        self.assertEqual((other.needed(), texts(other)), ([], ["table sales 1 b:number", "put sales 2 1", "code old 0 sales - 3"]))
        self.assertEqual(other.compute("old", 2), Content([("b", "number")], []))
        self.assertEqual((other.made, len(other.records()), texts(other)[3:]), (1, 7, ["record old 2 - sales - 3"]))
        again, many = recover(written_anew(other))
        self.assertEqual((many, again.made), (4, 1))
        self.assertEqual((other.drop(), other.made, other.state_at("old", 2)), (6, 1, "fresh"))
        self.assertEqual(self.store.compute("old", 2), Content(COLUMNS, []))

    def test_both_columns_stay_side_by_side(self):
        self.log.set_code("old", "sales - 3")
        self.store.compute("old", 2)
        log = Log()
        log.add_table("sales", [("b", "number")])
        log.put("sales", 2, (1,))
        log.set_code("old", "sales - 3")
        other = rebased(self.store, log)
        list(other.work())
        back = rebased(other, self.log)
        self.assertEqual((back.records(), back.made), (other.records(), 0))
        self.assertEqual((back.content_at("old", 2), other.content_at("old", 2)), (Content(COLUMNS, []), Content([("b", "number")], [])))
        claims = [Store(self.log).claim("ann").run() for _ in range(2)]
        self.assertEqual(claims[0], claims[1])

    def test_tables_that_are_not_there(self):
        log = Log()
        log.add_table("big", COLUMNS)
        log.put("big", 0, ("east", 1))
        log.set_code("sales", "big")
        other = rebased(self.store, log)
        self.assertEqual((other.needed(), len(other.records()), texts(other)[3:]), ([], 4, []))
        self.assertEqual((list(other.work()), other.drop()), ([("sales", 0)], 4))

    def test_states_against_new_stores_with_the_same_records(self):
        served = 0
        for seed in range(40):
            maker = LogMaker(seed)
            store = Store(maker.grow(14))
            list(store.work())
            start = random.Random(seed).randrange(3, len(store.log) + 1)
            other_maker = LogMaker(seed)
            other_maker.log = store.log.copy(start)
            other_maker.random = random.Random(seed + 1)
            log = other_maker.grow(5)
            other = rebased(store, log)
            for table in log.tables():
                for day in range(5):
                    state, content = other.state_at(table, day), other.content_at(table, day)
                    served += state == "fresh" and not log.is_raw(table)
                    self.assertEqual(content, from_scratch(log, table, day) if state == "fresh" else None)
            list(other.work())
            self.assertTrue(other.is_done())
            records = other.records()
            self.assertEqual(records[:len(store.records())], store.records())
            self.assertEqual(len(records), len(store.records()) + other.made)
            needed = other.needed()
            other.drop()
            self.assertEqual((other.records(), other.is_done()), (needed, True))
            again, many = recover(written_anew(other))
            self.assertEqual((many, again.records()), (len(texts(other)), needed))
        self.assertGreater(served, 100)


if __name__ == "__main__":
    unittest.main()
