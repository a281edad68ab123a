"""Live questions, at all moments, against contents from scratch."""

import random
import unittest

from backfilled.checks import needs_of
from backfilled.codes import parse, show
from backfilled.differences import Difference
from backfilled.errors import BackfilledError, BadCode, BadDay, BadMoment, BadText
from backfilled.lives import Live
from backfilled.truth import from_scratch, scratch_answer
from stores_support import LogMaker, chain_log, sales_log
from tests_support import ODD_VALUES, ValidCodes, fields_of


def code_on(log, part, moment):
    """The text of the code that holds for a partition, or None."""
    if part[0] not in log.tables(moment) or log.is_raw(part[0], moment):
        return None
    return log.code_at(*part, moment)


def naive_uses(log, needs, moment):
    found = set()
    for part in needs:
        text = code_on(log, part, moment)
        found |= {part} | naive_uses(log, [] if text is None else needs_of(parse(text), part[1]), moment)
    return found


def naive_step(log, question, day, before, after):
    """The lists that changed and looked_at are to return behind a step."""
    order = list(log.tables(after))
    uses = naive_uses(log, needs_of(parse(question), day), after)
    uses = sorted(uses, key=lambda part: (part[1], order.index(part[0])))
    changed = [part for part in uses if from_scratch(log, *part, before) != from_scratch(log, *part, after)]
    looked = []
    for part in uses:
        text = code_on(log, part, after)
        needs = [] if text is None else needs_of(parse(text), part[1])
        if code_on(log, part, before) != text or set(needs) & set(changed):
            looked.append(part)
    return changed, looked


class StepsTest(unittest.TestCase):
    def setUp(self):
        self.log = sales_log()
        self.live = Live(log=self.log, question="many", day=0)

    def test_at_first(self):
        self.assertEqual((self.live.moment, self.live.content.rows), (5, [(1,)]))
        self.assertEqual((self.live.changed(), self.live.looked_at()), ([], []))

    def test_the_ends(self):
        self.assertIsNone(self.live.forward())
        self.assertIsNone(self.live.backward())
        self.assertEqual((self.live.moment, self.live.changed(), self.live.looked_at()), (5, [], []))
        live = Live(self.log, "sales", 0)
        while live.backward() is not None:
            pass
        self.assertEqual((live.moment, live.content.rows), (1, []))
        self.assertEqual((live.changed(), live.looked_at()), ([("sales", 0)], []))

    def test_it_keeps_the_very_log(self):
        self.log.put("sales", 0, ("west", 9))
        self.assertEqual((self.live.moment, self.live.content.rows), (5, [(1,)]))
        difference = self.live.forward()
        self.assertIsInstance(difference, Difference)
        self.assertEqual((difference.come.rows, difference.gone.rows, self.live.moment), ([(2,)], [(1,)], 6))
        self.assertEqual((self.live.changed(), self.live.looked_at()), ([("sales", 0), ("big", 0), ("many", 0)], [("big", 0), ("many", 0)]))
        self.assertEqual(self.live.backward(), difference.turned())

    def test_rows_that_do_not_pass_a_filter(self):
        self.log.put("sales", 0, ("west", 1))
        self.assertEqual(len(self.live.forward()), 0)
        self.assertEqual((self.live.changed(), self.live.looked_at()), ([("sales", 0)], [("big", 0)]))
        self.log.put("sales", 1, ("west", 9))
        self.assertEqual(len(self.live.forward()), 0)
        self.assertEqual((self.live.changed(), self.live.looked_at(), self.live.moment), ([], [], 7))

    def test_codes(self):
        self.log.set_code("big", "sales|where 3<amount", 0)
        self.live.forward()
        self.assertEqual((self.live.changed(), self.live.looked_at()), ([], []))
        self.log.set_code("big", "sales | where 4 < amount")
        self.live.forward()
        self.assertEqual((self.live.changed(), self.live.looked_at()), ([], [("big", 0)]))
        self.log.set_code("big", "sales | where 5 < amount")
        self.assertEqual(self.live.forward().gone.rows, [(1,)])
        self.assertEqual((self.live.changed(), self.live.looked_at()), ([("big", 0), ("many", 0)], [("big", 0), ("many", 0)]))
        self.log.set_code("big", "sales", 1)
        self.live.forward()
        self.assertEqual((self.live.changed(), self.live.looked_at()), ([], []))

    def test_days_without_a_code(self):
        self.log.set_code("later", "big", 2)
        live = Live(self.log, "later | keep shop", 1)
        self.log.set_code("later", "sales", 1)
        self.assertEqual(live.forward().come.rows, [("west",)])
        self.assertEqual((live.changed(), live.looked_at()), ([("later", 1)], [("later", 1)]))
        self.assertEqual(live.backward().gone.rows, [("west",)])
        self.assertEqual((live.changed(), live.looked_at()), ([("later", 1)], [("later", 1)]))

    def test_what_it_uses_is_that_of_the_moment_reached(self):
        self.log.add_table("other", [("shop", "text"), ("amount", "number")])
        self.log.put("other", 0, ("x", 7))
        live = Live(self.log, "big", 0)
        self.log.set_code("big", "other")
        live.forward()
        self.assertEqual((live.changed(), live.looked_at()), ([("big", 0)], [("big", 0)]))
        self.log.put("sales", 0, ("east", 1))
        live.forward()
        self.assertEqual((live.changed(), live.looked_at()), ([], []))
        live.go_to(7)
        self.assertEqual((live.changed(), live.looked_at()), ([("big", 0)], [("big", 0)]))

    def test_go_to(self):
        for day in (0, 0, 1, 0):
            self.log.put("sales", day, ("west", 9 - len(self.log)))
        self.live.forward()
        before = self.live.content
        difference = self.live.go_to(moment=9)
        self.assertEqual(difference, Difference(before, scratch_answer(self.log, "many", 0)))
        self.assertEqual((self.live.moment, self.live.changed(), self.live.looked_at()), (9, [("sales", 0)], [("big", 0)]))
        self.assertEqual(len(self.live.go_to(9)), 0)
        self.assertEqual((self.live.changed(), self.live.looked_at()), ([("sales", 0)], [("big", 0)]))
        self.live.go_to(7)
        self.assertEqual((self.live.moment, self.live.changed()), (7, []))
        self.live.go_to(5)
        self.assertEqual((self.live.content.rows, self.live.changed()), ([(1,)], [("sales", 0), ("big", 0), ("many", 0)]))

    def test_moments_to_which_it_cannot_go(self):
        self.log.put("sales", 0, ("west", 9))
        self.live.forward()
        seen = (self.live.moment, self.live.content, self.live.changed(), self.live.looked_at())
        for odd in [*ODD_VALUES, -1, 0, 1, 4, 7, 999, "5"]:
            self.assertEqual(fields_of(self, BadMoment, self.live.go_to, odd), {"moment": odd})
            self.assertEqual((self.live.moment, self.live.content, self.live.changed(), self.live.looked_at()), seen)

    def test_lists_are_new(self):
        self.log.put("sales", 0, ("west", 9))
        self.live.forward()
        self.live.changed().clear()
        self.live.looked_at().clear()
        self.assertEqual((len(self.live.changed()), len(self.live.looked_at())), (3, 2))

    def test_errors(self):
        for odd in [*ODD_VALUES, 1]:
            self.assertEqual(fields_of(self, BadText, Live, self.log, odd, -1), {"at": None})
        self.assertEqual(fields_of(self, BadText, Live, self.log, "none |", -1), {"at": 6})
        self.assertEqual(fields_of(self, BadCode, Live, self.log, "none", -1), {"part": ("table", "none", 0)})
        for odd in [*ODD_VALUES, -1, 1000, "1"]:
            self.assertEqual(fields_of(self, BadDay, Live, self.log, "sales", odd), {"value": odd})

    def test_a_long_chain(self):
        log = chain_log()
        live = Live(log, "u", 999)
        log.put("t", 500, (2,))
        self.assertEqual(live.forward().come.rows, [(2,)])
        self.assertEqual(live.changed(), [("t", 500), *[("u", day) for day in range(500, 1000)]])
        self.assertEqual(live.looked_at(), [("u", day) for day in range(500, 1000)])


class RandomTest(unittest.TestCase):
    def valid_at(self, log, question, day, moment):
        try:
            scratch_answer(log, question, day, moment)
        except BackfilledError:
            return False
        return True

    def test_walks(self):
        moved = 0
        for seed in range(40):
            maker = LogMaker(seed)
            log = maker.grow(12)
            codes = ValidCodes(seed, log.tables())
            chance = random.Random(seed)
            question = show(codes.code_of(chance.randrange(4)))
            day = chance.randrange(4)
            live = Live(log, question, day)
            told = ([], [])
            for _ in range(25):
                if chance.random() < 0.2:
                    maker.grow(1)
                before = live.moment
                content = live.content
                pick = chance.randrange(5)
                if pick < 4:
                    goal = before + (1 if pick < 2 else -1)
                    difference = live.forward() if pick < 2 else live.backward()
                    if not self.valid_at(log, question, day, goal):
                        self.assertIsNone(difference)
                        goal = before
                else:
                    goal = chance.randrange(len(log) + 1)
                    if self.valid_at(log, question, day, goal):
                        difference = live.go_to(goal)
                    else:
                        fields_of(self, BadMoment, live.go_to, goal)
                        goal, difference = before, None
                if goal != before:
                    told = naive_step(log, question, day, goal - 1 if goal > before else goal + 1, goal)
                    moved += 1
                self.assertEqual((live.moment, live.content), (goal, scratch_answer(log, question, day, goal)))
                self.assertEqual((live.changed(), live.looked_at()), told)
                if difference is not None:
                    self.assertEqual(difference, Difference(content, live.content))
        self.assertGreater(moved, 500)


if __name__ == "__main__":
    unittest.main()
