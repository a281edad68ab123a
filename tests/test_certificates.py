"""Certificates: of answers at any moment, whoever wrote them, and certificates that are refused."""

import copy
import random
import unittest

from backfilled.certificates import certificate, check_certificate
from backfilled.codes import parse, show
from backfilled.checks import needs_of
from backfilled.errors import BadCode, BadDay, BadMoment, BadText
from backfilled.stores import Store
from backfilled.truth import evaluate, scratch_answer
from stores_support import LogMaker, chain_log, sales_log
from tests_support import ODD_VALUES, ValidCodes, fields_of


def same(value, rows):
    """Whether any value is just this list of rows, with numbers and texts that are none of other kinds."""
    return isinstance(value, list) and value == rows and repr(value) == repr(rows)


def accepts(log, question, day, moment, rows, value):
    """Whether a certificate holds, in the document's words."""
    contents = {}

    def computed(text, on):
        needs = needs_of(parse(text), on)
        if any(need not in contents for need in needs):
            return None
        return evaluate(parse(text), on, log.tables(moment), lambda *part: contents[part]).rows

    if not isinstance(value, list):
        return False
    for step in value:
        if not isinstance(step, tuple) or len(step) not in (3, 4) or not isinstance(step[0], str) or step[0] not in log.tables(moment):
            return False
        if type(step[1]) is not int or not 0 <= step[1] <= 999 or len(step) != 4 - log.is_raw(step[0], moment):
            return False
        if len(step) == 3:
            right = log.raw(*step[:2], moment)
        else:
            text = log.code_at(*step[:2], moment)
            if step[2] != text:
                return False
            if text is not None and computed(text, step[1]) is None:
                return False
            right = scratch_answer(log, step[0], step[1], moment)
        if not same(step[-1], right.rows):
            return False
        contents[step[:2]] = right
    right = computed(question, day)
    return right is not None and same(rows, right)


def changed(chance, value):
    """A certificate with some of its steps, rows, texts or items changed, left out or moved."""
    value = copy.deepcopy(value)
    if not value:
        return [("sales", 0, [])]
    at = chance.randrange(len(value))
    step = value[at]
    pick = chance.randrange(7)
    if pick == 0:
        del value[at]
    elif pick == 1:
        value.insert(chance.randrange(len(value)), value.pop(at))
    elif pick == 2:
        value.append(chance.choice([step, ("sales", 2, []), ("sales", 0, [("east", 1)]), ("u", 7, None, []), ("u", 0, "sales", [])]))
    elif pick == 3:
        rows = chance.choice([step[-1][::-1], step[-1] + step[-1][:1], step[-1][1:], [*step[-1], ("east", 1)], tuple(step[-1]), None])
        value[at] = (*step[:-1], rows)
    elif pick == 4:
        value[at] = chance.choice([step[:-1], step + ([],), list(step), None, step[0]])
    elif pick == 5:
        worth = chance.choice([None, "sales", "u", 0, 1, True, False, 1.0, 5, "sales | keep shop"])
        item = chance.randrange(len(step) - 1)
        value[at] = (*step[:item], worth, *step[item + 1:])
    else:
        rows = [tuple(chance.choice([worth, worth, float(worth) if isinstance(worth, int) else 0, worth == 1]) for worth in row)
                for row in step[-1]]
        value[at] = (*step[:-1], rows)
    return value


class CertificateTest(unittest.TestCase):
    def setUp(self):
        self.log = sales_log()
        self.log.set_code("trend", "many last 2 | group: most = greatest many")
        self.store = Store(self.log)
        self.answer = self.store.ask("trend | keep most", 1)
        self.value = certificate(log=self.log, answer=self.answer)

    def check(self, value, rows=None, moment=6):
        rows = self.answer.content.rows if rows is None else rows
        return check_certificate(self.log, "trend | keep most", 1, moment, rows, value)

    def test_a_certificate_of_several_tables_and_days(self):
        self.assertEqual(sorted(step[:2] for step in self.value), sorted(self.answer.uses()))
        self.assertEqual(self.value[-1], ("trend", 1, "many last 2 | group: most = greatest many", [(1,)]))
        self.assertIn(("sales", 1, [("west", 2)]), self.value)
        self.assertTrue(self.check(self.value))
        self.assertTrue(check_certificate(log=self.log, question="trend|keep most", day=1, moment=None, rows=[(1,)], value=self.value))

    def test_wrong_rows_of_the_answer(self):
        for rows in ([], [(2,)], [(1,), (1,)], [(True,)], [(1.0,)], ((1,),), [[1]], [("1",)], [(1, 1)], *ODD_VALUES):
            self.assertIs(check_certificate(self.log, "trend | keep most", 1, 6, rows, self.value), False)

    def test_each_step_changed_left_out_or_moved(self):
        for at, step in enumerate(self.value):
            ahead, behind = self.value[:at], self.value[at + 1:]
            self.assertFalse(self.check(ahead + behind))
            self.assertTrue(self.check([*ahead, step, step, *behind]))
            for item in range(len(step)):
                for odd in [*ODD_VALUES, 7, "none", "big", [(9,)], [("east", 5), ("west", 2)]]:
                    if step[item] != odd:
                        self.assertFalse(self.check([*ahead, (*step[:item], odd, *step[item + 1:]), *behind]))
            for odd in [*ODD_VALUES, 1, step[:-1], step[:1], (*step, []), list(step), (*step[:2], None, *step[2:])]:
                self.assertIs(self.check([*ahead, odd, *behind]), False)
            if len(step) == 4:
                self.assertFalse(self.check([step, *ahead, *behind]))
                self.assertFalse(self.check([*ahead, (*step[:2], step[2] + " ", step[3]), *behind]))
        for odd in [*ODD_VALUES, tuple(self.value), self.value[-1], "value"]:
            self.assertIs(self.check(odd), False)

    def test_steps_that_are_not_needed(self):
        more = [("sales", 5, []), ("big", 5, "sales | where 3 < amount", [])]
        self.assertTrue(self.check([*more, *self.value]))
        self.assertTrue(self.check([*self.value, *more]))
        self.assertFalse(self.check([*self.value, more[1]]))
        for wrong in (("sales", 5, [("east", 5)]), ("big", 0, "sales", [("east", 5)]), ("many", 7, "big | group: many = count", [])):
            self.assertFalse(self.check([*self.value, wrong]))
            self.assertFalse(self.check([wrong, *self.value]))

    def test_rows_in_order_and_each_once(self):
        self.log.put("sales", 0, ("aaa", 9))
        rows = [("aaa", 9), ("east", 5)]
        good = lambda one, other: check_certificate(self.log, "sales", 0, None, one, [("sales", 0, other)])
        self.assertTrue(good(rows, rows))
        for other in (rows[::-1], [*rows, rows[0]], rows[:1], tuple(rows), [("aaa", 9.0), rows[1]]):
            self.assertFalse(good(other, rows))
            self.assertFalse(good(rows, other))
        self.log.put("sales", 0, ("aaa", 1))
        self.assertFalse(good([("aaa", True), rows[1]], [("aaa", 1), rows[1]]))
        self.assertFalse(good([("aaa", 1), rows[1]], [("aaa", True), rows[1]]))

    def test_days_on_which_no_code_holds(self):
        self.log.set_code("later", "sales", 2)
        value = certificate(self.log, self.store.ask("later", 1))
        self.assertEqual(value, [("later", 1, None, [])])
        good = lambda other: check_certificate(self.log, "later", 1, None, [], other)
        self.assertTrue(good(value))
        for other in ([("later", 1, "sales", [])], [("later", 1, None, [("east", 5)])], [("later", 1, [])], [("later", 1, False, [])]):
            self.assertFalse(good(other))

    def test_questions_without_needs(self):
        self.assertEqual(certificate(self.log, self.store.ask("sales - 5", 1)), [])
        self.assertTrue(check_certificate(self.log, "sales - 5", 1, None, [], []))
        self.assertFalse(check_certificate(self.log, "sales - 5", 1, None, [("east", 5)], []))

    def test_tables_that_need_later_ones(self):
        self.log.set_code("base", "sales | where 0 < amount")
        self.log.set_code("big", "base | where 3 < amount")
        value = certificate(self.log, self.store.ask("big", 0))
        self.assertEqual([step[0] for step in value], ["sales", "base", "big"])
        self.assertTrue(check_certificate(self.log, "big", 0, None, [("east", 5)], value))

    def test_moments(self):
        self.log.put("sales", 1, ("west", 9))
        self.assertTrue(self.check(self.value))
        self.assertFalse(self.check(self.value, moment=None))
        self.assertFalse(self.check(self.value, moment=7))
        self.log.set_code("big", "sales")
        self.log.add_table("other", [("a", "number")])
        self.assertTrue(self.check(self.value))
        self.assertFalse(self.check([("other", 0, []), *self.value]))
        self.assertTrue(check_certificate(self.log, "sales", 0, None, [("east", 5)], [("other", 0, []), ("sales", 0, [("east", 5)])]))
        for moment in (6, 7, 8, 9):
            answer = self.store.ask("trend", 1, moment, "n" + "abcd"[moment - 6])
            value = certificate(self.log, answer)
            self.assertTrue(check_certificate(self.log, "trend", 1, moment, answer.content.rows, value))
            self.store.drop()
        for name in self.store.names():
            again = self.store.again(name)
            value = certificate(self.log, again)
            self.assertTrue(check_certificate(self.log, again.question, 1, again.moment, again.content.rows, value))

    def test_a_chain_through_all_days(self):
        log = chain_log()
        value = certificate(log, Store(log).ask("u", 999))
        self.assertEqual(len(value), 2000)
        self.assertTrue(check_certificate(log, "u", 999, None, [(1,)], value))
        self.assertFalse(check_certificate(log, "u", 999, None, [(1,)], value[1:]))

    def test_errors_in_their_order(self):
        for odd in [*ODD_VALUES[1:], -1, 7]:
            fields = fields_of(self, BadMoment, check_certificate, self.log, "|", -1, odd, None, None)
            self.assertEqual(fields, {"moment": odd})
        for odd in ODD_VALUES:
            self.assertEqual(fields_of(self, BadText, check_certificate, self.log, odd, -1, 6, 0, 0), {"at": None})
            self.assertEqual(fields_of(self, BadDay, check_certificate, self.log, "big", odd, 6, 0, 0), {"value": odd})
        self.assertEqual(fields_of(self, BadText, check_certificate, self.log, "big |", -1, 6, 0, 0), {"at": 5})
        fields = fields_of(self, BadCode, check_certificate, self.log, "big", -1, 3, 0, 0)
        self.assertEqual(fields, {"part": ("table", "big", 0)})

    def test_arguments_do_not_change(self):
        before = copy.deepcopy(self.value)
        self.assertTrue(self.check(self.value))
        self.assertEqual((self.value, self.store.made), (before, 5))
        self.value[0][-1].append(("north", 1))
        self.assertNotEqual(certificate(self.log, self.answer), self.value)

    def test_random_certificates(self):
        chance = random.Random(4)
        verdicts = {True: 0, False: 0}
        for seed in range(120):
            log = LogMaker(seed).grow(14)
            store = Store(log)
            moment = chance.choice([None, chance.randrange(2, len(log) + 1)])
            tables = log.tables(moment)
            codes = ValidCodes(seed, {name: tables[name] for name in [*tables, *"uvw"] if name in tables})
            question, day = show(codes.code_of(2)), chance.choice([0, 1, 2])
            answer = store.ask(question, day, moment)
            value = certificate(log, answer)
            rows = answer.content.rows
            self.assertTrue(accepts(log, question, day, moment, rows, value))
            self.assertTrue(check_certificate(log, question, day, moment, rows, value))
            for _ in range(25):
                other = changed(chance, value)
                verdict = accepts(log, question, day, moment, rows, other)
                self.assertEqual(check_certificate(log, question, day, moment, rows, other), verdict, other)
                verdicts[verdict] += 1
        self.assertGreater(min(verdicts.values()), 100)


if __name__ == "__main__":
    unittest.main()
