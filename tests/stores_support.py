"""What the tests of stores share: random logs, and a naive store that keeps to the document's words."""

import random

from backfilled.checks import needs_of
from backfilled.codes import parse, show
from backfilled.errors import BackfilledError
from backfilled.journals import journal
from backfilled.logs import Log
from backfilled.truth import evaluate, from_scratch
from tests_support import ValidCodes

COLUMNS = [("shop", "text"), ("amount", "number")]


def sales_log():
    """The log of most examples: two shops, big sales, and how many they are."""
    log = Log()
    log.add_table("sales", COLUMNS)
    log.put("sales", 0, ("east", 5))
    log.put("sales", 1, ("west", 2))
    log.set_code("big", "sales | where 3 < amount")
    log.set_code("many", "big | group: many = count")
    return log


def chain_log():
    """A log whose derived table needs all days ahead of each day."""
    log = Log()
    log.add_table("t", [("a", "number")])
    log.put("t", 0, (1,))
    log.set_code("u", "t")
    log.set_code("u", "u - 1 | union t", 1)
    return log


class LogMaker:
    """Grows a log by random entries, from a seed."""

    def __init__(self, seed):
        self.random = random.Random(seed)
        self.seed = seed
        self.log = Log()
        self.log.add_table("sales", COLUMNS)
        self.log.add_table("shops", [("shop", "text"), ("size", "number"), ("amount", "number")], 2)

    def grow(self, many):
        for _ in range(many):
            self.grow_once()
        return self.log

    def grow_once(self):
        before = len(self.log)
        while len(self.log) == before:
            pick = self.random.randrange(10)
            if pick < 3:
                self.derive()
            elif pick < 8:
                self.raw()
            else:
                self.take_back()

    def raw(self):
        day = self.random.choice([0, 0, 1, 1, 2, 3])
        shop = self.random.choice(["east", "west", ""])
        if self.random.random() < 0.5:
            self.log.put("sales", day, (shop, self.random.choice([0, 1, 5, -3])))
        elif self.random.random() < 0.5:
            self.log.put("shops", day, (shop, self.random.choice([1, 2]), self.random.choice([0, 5])))
        else:
            self.log.delete("sales", day, (shop,))

    def take_back(self):
        """Puts once more what was put or coded before."""
        entry = self.random.choice(self.log.entries())
        if entry[0] == "put":
            self.log.put(*entry[1:])
        elif entry[0] == "code":
            self.log.set_code(*entry[1:])

    def derive(self):
        codes = ValidCodes(self.random.randrange(10 ** 9), self.log.tables())
        text = show(codes.code_of(self.random.randrange(3)))
        try:
            self.log.set_code(self.random.choice(["u", "v", "w"]), text, self.random.choice([0, 0, 1, 2]))
        except BackfilledError:
            pass


class Model:
    """A store by the words of the document: no caches, every state found out anew."""

    def __init__(self, log):
        self.log = log
        self.records = []
        self.made = 0
        self.claimed = 0
        self.opened = []
        self.named = {}

    def plan(self, part, moment):
        """The code that holds and the partitions that it needs, or None."""
        if self.log.is_raw(part[0], moment):
            return None
        text = self.log.code_at(part[0], part[1], moment)
        return None if text is None else (text, needs_of(parse(text), part[1]))

    def judge(self, part, moment):
        """The state, the content and the record of a partition."""
        plan = self.plan(part, moment)
        if plan is None:
            return ("fresh", from_scratch(self.log, *part, moment), None)
        inputs = []
        for need in plan[1]:
            state, content, _ = self.judge(need, moment)
            if state != "fresh":
                return ("unknown", None, None)
            inputs.append((*need, content))
        columns = self.log.columns_at(part[0], moment)
        for record in self.records:
            if record[:4] == (*part, plan[0], tuple(inputs)) and record[4].columns == columns:
                return ("fresh", record[4], record)
        return ("due", None, (*part, plan[0], tuple(inputs)))

    def state(self, part, moment):
        return self.judge(part, moment)[0]

    def record_by(self, table, day, code, inputs):
        """Makes a record as a claim or computing does."""
        contents = {(table, day): content for table, day, content in inputs}
        content = evaluate(parse(code), day, self.log.tables(), lambda *part: contents[part])
        self.records.append((table, day, code, inputs, content))
        self.made += 1

    def first_due(self, goals, moment):
        """The first due partition of the goals, each behind its own needs."""
        for part in goals:
            state, _, more = self.judge(part, moment)
            if state == "due":
                return part
            if state == "unknown":
                return self.first_due(self.plan(part, moment)[1], moment)
        return None

    def compute(self, goals, moment):
        made = []
        while (part := self.first_due(goals, moment)) is not None:
            self.record_by(*self.judge(part, moment)[2])
            made.append(part)
        return made

    def parts(self, moment):
        last = self.log.last_day(moment)
        tables = [name for name in self.log.tables(moment) if not self.log.is_raw(name, moment)]
        return [(table, day) for day in range(-1 if last is None else last, -1, -1) for table in tables[::-1]][::-1]

    def due(self, moment):
        return [part for part in self.parts(moment) if self.state(part, moment) == "due"]

    def claim(self):
        """The partition, code and inputs of the claim that comes next, or None."""
        for part in self.due(len(self.log)):
            wanted = self.judge(part, len(self.log))[2]
            if wanted not in [claim for _, claim in self.opened]:
                self.claimed += 1
                self.opened.append((self.claimed, wanted))
                return wanted
        return None

    def finish(self, number):
        wanted = dict(self.opened)[number]
        self.opened.remove((number, wanted))
        if wanted in [record[:4] for record in self.records]:
            return False
        self.record_by(*wanted)
        return True

    def uses(self, needs, moment):
        found = []
        for part in needs:
            plan = self.plan(part, moment)
            found = [*found, part, *(self.uses(plan[1], moment) if plan else [])]
        order = list(self.log.tables(moment))
        return sorted(set(found), key=lambda part: (part[1], order.index(part[0])))

    def needed(self):
        found = [self.judge(part, len(self.log)) for part in self.parts(len(self.log))]
        for text, day, moment in self.named.values():
            found += [self.judge(part, moment) for part in self.uses(needs_of(parse(text), day), moment)]
        wanted = [record for state, _, record in found if state == "fresh" and record is not None]
        return [record for record in self.records if record in wanted]


def fields(record):
    """A record as the model keeps it."""
    return (record.table, record.day, record.code, record.inputs, record.content)


def written_anew(store):
    """The journal of a store, written line by line even if the store keeps one; it must be the one that is kept."""
    kept = journal(store)
    store.keep_journal(None)
    anew = journal(store)
    assert kept == anew, (kept, anew)
    return anew


def texts(store):
    """The texts of the lines of a journal."""
    return [line.rpartition(" ")[0] for line in written_anew(store).split("\n")[:-1]]


def naive_number(index, text):
    """The check number, worked out as one sum."""
    signs = [index, *[ord(sign) for sign in text]][::-1]
    return sum(sign * 257 ** at for at, sign in enumerate(signs)) % 9999991


def written(lines):
    """Lines with their check numbers."""
    return "".join(f"{text} #{naive_number(index, text):07d}\n" for index, text in enumerate(lines))
