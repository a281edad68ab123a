"""Stores against a naive one, over random logs that grow while work is done."""

import random
import unittest

from backfilled.checks import needs_of
from backfilled.codes import parse, show
from backfilled.stores import Store
from backfilled.truth import from_scratch, scratch_answer
from stores_support import LogMaker, Model, fields
from tests_support import ValidCodes

DAYS = (0, 1, 2, 3, 5)


class Pair:
    """A store and the model of it, over one log that grows."""

    def __init__(self, test, seed):
        self.test = test
        self.random = random.Random(seed)
        self.maker = LogMaker(seed)
        self.log = self.maker.grow(self.random.randrange(3, 12))
        self.store = Store(self.log)
        self.model = Model(self.log)
        self.claims = {}
        self.working = None

    def moment(self):
        return self.random.choice([len(self.log), len(self.log), self.random.randrange(len(self.log) + 1)])

    def part(self, moment):
        tables = list(self.log.tables(moment))
        return (self.random.choice(tables), self.random.choice(DAYS)) if tables else None

    def check(self):
        """Compares all that a store tells."""
        same = self.test.assertEqual
        same([fields(record) for record in self.store.records()], self.model.records)
        same(self.store.made, self.model.made)
        for moment in {len(self.log), self.moment()}:
            for table in self.log.tables(moment):
                for day in DAYS:
                    state, content, _ = self.model.judge((table, day), moment)
                    same(self.store.state_at(table, day, moment), state)
                    same(self.store.content_at(table, day, moment), content)
                    if state == "fresh":
                        same(content, from_scratch(self.log, table, day, moment))
            same(self.store.due(moment), self.model.due(moment))
            states = [self.model.state(part, moment) for part in self.model.parts(moment)]
            same(self.store.is_done(moment), set(states) <= {"fresh"})
        same(self.store.made, self.model.made)
        same([claim.number for claim in self.store.claims()], [number for number, _ in self.model.opened])
        same(self.store.names(), list(self.model.named))
        same([fields(record) for record in self.store.needed()], self.model.needed())

    def compute(self):
        moment = self.moment()
        part = self.part(moment)
        if part:
            content = self.store.compute(*part, moment)
            self.test.assertEqual(content, from_scratch(self.log, *part, moment))
            self.model.compute([part], moment)

    def work(self):
        if self.working is None:
            self.working = self.store.work()
        for _ in range(self.random.randrange(4)):
            due = self.model.due(len(self.log))
            part = next(self.working, None)
            self.test.assertEqual(part, due[0] if due else None)
            if part is None:
                self.working = None
                return
            self.model.record_by(*self.model.judge(part, len(self.log))[2])

    def claim(self):
        wanted = self.model.claim()
        claim = self.store.claim(self.random.choice(["ann", "ben"]))
        if wanted is None:
            self.test.assertIsNone(claim)
        else:
            self.test.assertEqual((claim.table, claim.day, claim.code, claim.inputs), wanted)
            self.test.assertEqual((claim.number, claim.state), (self.model.claimed, "open"))
            self.claims[claim.number] = claim

    def finish(self):
        if self.claims:
            number = self.random.choice(list(self.claims))
            claim = self.claims.pop(number)
            if self.random.random() < 0.2:
                claim.give_up()
                self.model.opened = [(at, wanted) for at, wanted in self.model.opened if at != number]
            else:
                content = claim.run()
                self.test.assertEqual(claim.finish(), self.model.finish(number))
                self.test.assertEqual(claim.run(), content)

    def ask(self):
        moment = self.moment()
        if not self.log.tables(moment):
            return
        code = ValidCodes(self.random.randrange(10 ** 9), self.log.tables(moment)).code_of(self.random.randrange(3))
        day = self.random.choice(DAYS)
        text = show(code)
        name = self.random.choice([None, "x", "y", "z"])
        if name in self.model.named:
            self.store.forget(name)
            del self.model.named[name]
        answer = self.store.ask(text, day, moment, name)
        self.model.compute(needs_of(parse(text), day), moment)
        self.test.assertEqual(answer.content, scratch_answer(self.log, text, day, moment))
        self.test.assertEqual(answer.uses(), self.model.uses(needs_of(code, day), moment))
        if name is not None:
            self.model.named[name] = (text, day, moment)

    def again(self):
        for name, (text, day, moment) in self.model.named.items():
            self.model.compute(needs_of(parse(text), day), moment)
            self.test.assertEqual(self.store.again(name).content, scratch_answer(self.log, text, day, moment))

    def drop(self):
        needed = self.model.needed()
        self.test.assertEqual(self.store.drop(), len(self.model.records) - len(needed))
        self.model.records = needed

    def backfill(self):
        derived = [name for name in self.log.tables() if not self.log.is_raw(name)]
        if not derived:
            return
        table = self.random.choice(derived)
        days = sorted(self.random.choices(DAYS, k=2))
        day = days[0]
        for part in self.store.backfill(table, *days):
            while self.model.first_due([(table, day)], len(self.log)) is None:
                day += 1
            self.test.assertEqual(part, self.model.first_due([(table, day)], len(self.log)))
            self.model.record_by(*self.model.judge(part, len(self.log))[2])
            if self.random.random() < 0.2:
                self.maker.grow_once()
            if self.random.random() < 0.1:
                self.drop()
        self.test.assertLessEqual(day, days[1])

    def step(self):
        moves = [self.compute, self.work, self.work, self.claim, self.claim, self.finish, self.ask, self.again,
                 self.drop, self.backfill, self.maker.grow_once, self.maker.grow_once]
        move = self.random.choice(moves)
        move()


class RandomStoresTest(unittest.TestCase):
    def test_stores_do_as_the_naive_one(self):
        for seed in range(60):
            pair = Pair(self, seed)
            with self.subTest(seed=seed):
                for _ in range(14):
                    pair.step()
                    pair.check()

    def test_runners_in_any_order_make_all_fresh(self):
        for seed in range(60):
            log = LogMaker(seed).grow(14)
            store = Store(log)
            chance = random.Random(seed)
            opened, finished = [], []
            while True:
                claim = store.claim(chance.choice(["ann", "ben", "cy"]))
                if claim is not None:
                    opened.append(claim)
                if claim is None and not opened:
                    break
                if opened and (claim is None or chance.random() < 0.5):
                    done = opened.pop(chance.randrange(len(opened)))
                    if chance.random() < 0.1:
                        done.give_up()
                    else:
                        self.assertTrue(done.finish())
                        finished.append((done.table, done.day, done.code, done.inputs))
            self.assertTrue(store.is_done())
            self.assertEqual(len(finished), store.made)
            for at, one in enumerate(finished):
                self.assertNotIn(one, finished[:at])
            for table in log.tables():
                for day in range((log.last_day() or -1) + 1):
                    self.assertEqual(store.content_at(table, day), from_scratch(log, table, day))


if __name__ == "__main__":
    unittest.main()
