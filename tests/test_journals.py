"""Journals: their lines, reading them back, and what is left out of them."""

import random
import unittest

from backfilled.contents import Content
from backfilled.errors import InvalidText
from backfilled.journals import check_number, journal, recover
from backfilled.logs import Log
from backfilled.records import Record
from backfilled.stores import Store
from backfilled.truth import from_scratch
from stores_support import LogMaker, chain_log, fields, naive_number, sales_log, texts, written, written_anew
from tests_support import ODD_VALUES, fields_of

ENTRIES = [
    "table sales 1 shop:text,amount:number", "put sales 0 'east',5", "put sales 1 'west',2",
    "code big 0 sales | where 3 < amount", "code many 0 big | group: many = count",
]
RECORDS = [
    "record big 0 2 sales | where 3 < amount", "record many 0 4 big | group: many = count",
    "record big 1 3 sales | where 3 < amount", "record many 1 4 big | group: many = count",
]


def naive_record(log, record):
    """The text of the line of a record, None if it is not written; each moment is looked at as the last one of a log."""
    logs = [log.copy(moment) for moment in range(len(log) + 1)]
    there = [one for one in logs if record.table in one.tables() and not one.is_raw(record.table)]
    if record.code not in [one.code_at(record.table, record.day) for one in there]:
        return None
    told = []
    for table, day, content in record.inputs:
        found = [len(one) for one in logs if table in one.tables() and from_scratch(one, table, day) == content]
        if not found:
            return None
        told.append(str(found[0]))
    return f"record {record.table} {record.day} {','.join(told) or '-'} {record.code}"


def state(store):
    """All that a journal keeps of a store."""
    names = [store.again(name) for name in store.names()]
    return (store.log.entries(), store.names(), [(one.question, one.day, one.moment, one.content) for one in names])


class LinesTest(unittest.TestCase):
    def setUp(self):
        self.log = sales_log()
        self.store = Store(self.log)

    def test_check_numbers(self):
        for index, text in [(0, ""), (7, ""), (0, "a"), (3, "table t 1 a:number"), (99, "~" * 500), (12345678, "ab")]:
            self.assertEqual(check_number(index=index, text=text), naive_number(index, text))
        for index in (0, 1, 127, 128, 5000, 10 ** 9):
            for length in range(1, 140):
                signs = "".join(chr((index + at * at) % 128) for at in range(length))
                for text in (signs, "\x7f" * length, "\0" * length, signs + "\u20ac", "\U0001f600" + signs):
                    self.assertEqual(check_number(index, text), naive_number(index, text))
        self.assertEqual((check_number(0, "a"), check_number(2, "a"), check_number(0, "aa")), (97, 611, 25026))
        self.assertEqual(journal(Store(self.log.copy(1))), written(ENTRIES[:1]))

    def test_each_kind_of_line(self):
        self.log.delete("sales", 1, ("west",))
        list(self.store.work(5))
        self.store.ask("(big)|keep shop", 7, 5, "first")
        self.store.ask("sales", 0, name="last" + "one")
        names = ["name first 7 5 big | keep shop", "name lastone 0 6 sales"]
        records = [*RECORDS, "record big 7 1 sales | where 3 < amount"]
        self.assertEqual(journal(store=self.store), written([*ENTRIES, "delete sales 1 'west'", *records, *names]))
        self.assertEqual(journal(Store(Log())), "")

    def test_values(self):
        self.log.add_table("t", [("a", "number"), ("b", "text"), ("c", "number")], 3)
        self.log.put("t", 999, (-5, "", 10 ** 40 - 1))
        self.log.delete("t", 0, (-(10 ** 40 - 1), "9 z  ", 0))
        wanted = ["table t 3 a:number,b:text,c:number", f"put t 999 -5,'',{'9' * 40}", f"delete t 0 -{'9' * 40},'9 z  ',0"]
        self.assertEqual(texts(self.store), [*ENTRIES, *wanted])
        again, many = recover(journal(self.store))
        self.assertEqual((again.log == self.log, many), (True, 8))

    def test_records_in_the_order_in_which_they_were_made(self):
        self.store.compute("big", 1)
        list(self.store.work())
        self.assertEqual(texts(self.store)[5:], [RECORDS[2], *RECORDS[:2], RECORDS[3]])

    def test_inputs_are_told_by_the_least_moments(self):
        self.log.put("sales", 0, ("east", 9))
        self.log.put("sales", 0, ("east", 5))
        self.log.set_code("both", "big - 1 | union sales")
        self.store.compute("both", 1)
        self.assertEqual(texts(self.store)[-1], "record both 1 4,3 big - 1 | union sales")
        self.store.compute("both", 0)
        self.assertEqual(texts(self.store)[-1], "record both 0 2 big - 1 | union sales")
        self.log.set_code("none", "both - 5")
        self.store.compute("none", 3)
        self.assertEqual(texts(self.store)[-1], "record none 3 - both - 5")

    def test_journals_of_a_log_that_grows(self):
        self.store.compute("big", 0)
        self.assertEqual(texts(self.store), [*ENTRIES, RECORDS[0]])
        self.log.put("sales", 0, ("north", 9))
        self.store.compute("big", 0)
        self.assertEqual(texts(self.store)[6:], [RECORDS[0], "record big 0 6 sales | where 3 < amount"])

    def test_least_moments_of_empty_contents_and_of_codes(self):
        self.log.set_code("later", "sales | keep shop", 2)
        self.log.set_code("users", "later | group: n = count")
        self.store.compute("users", 1)
        self.assertEqual(texts(self.store)[-1], "record users 1 6 later | group: n = count")
        self.log.set_code("later", "sales | where amount < 5 | keep shop", 0)
        self.store.compute("users", 1)
        self.assertEqual(texts(self.store)[-2:], ["record later 1 3 sales | where amount < 5 | keep shop",
                                                  "record users 1 8 later | group: n = count"])

    def test_records_of_trials(self):
        with self.store.trial("big", "sales | where 9 < amount") as trial:
            trial.ask("many", 0)
        with self.store.trial("big", "sales") as trial:
            trial.ask("many", 0)
            trial.ask("many", 1)
        with self.store.trial("new", "sales") as trial:
            trial.ask("new", 0)
        self.assertEqual((len(self.store.records()), texts(self.store)), (7, [*ENTRIES, RECORDS[1]]))
        self.log.set_code("big", "sales", 1)
        wanted = ["record many 0 4 big | group: many = count", "record big 1 3 sales", "record many 1 6 big | group: many = count"]
        self.assertEqual(texts(self.store)[6:], wanted)
        again, many = recover(journal(self.store))
        self.assertEqual((again.made, many, written_anew(again)), (3, 9, journal(self.store)))
        self.log.add_table("new", [("a", "number")])
        self.assertEqual(len(texts(self.store)), 10)

    def test_records_with_other_columns(self):
        self.log.set_code("old", "sales - 3")
        self.store.compute("old", 1)
        lines = texts(self.store)
        self.store._book.keep(Record("old", 2, "sales - 3", (), Content([("b", "number")], [])))
        self.assertEqual(texts(self.store), lines)
        self.store.compute("old", 2)
        self.assertEqual(texts(self.store), [*lines, "record old 2 - sales - 3"])


class RecoverTest(unittest.TestCase):
    def setUp(self):
        self.log = sales_log()
        self.store = Store(self.log)

    def check_back(self, store):
        """Reads a journal back, and compares all of it."""
        text = journal(store)
        again, many = recover(text=text)
        self.assertEqual(many, text.count("\n"))
        self.assertTrue(again.log == store.log)
        self.assertEqual(written_anew(again), text)
        self.assertEqual(again.made, sum(line.startswith("record ") for line in text.split("\n")))
        self.assertEqual(len(again.records()), again.made)
        self.assertEqual(state(again), state(store))
        return again

    def test_reading_back(self):
        list(self.store.work())
        self.store.ask("many | keep many", 1, 5, "one")
        self.store.ask("big", 0, 4, "two")
        again = self.check_back(self.store)
        self.assertEqual([fields(one) for one in again.records()], [fields(one) for one in self.store.records()])
        self.assertTrue(again.is_done())
        empty, many = recover("")
        self.assertEqual((len(empty.log), many, written_anew(empty)), (0, 0, ""))

    def test_reading_the_line_of_a_name_computes_no_record(self):
        self.store.ask("many", 0, None, "one")
        lines = [*ENTRIES, "name one 0 5 many"]
        again, many = recover(written(lines))
        self.assertEqual((many, again.made, again.records(), again.names()), (6, 0, [], ["one"]))
        self.assertEqual((again.again("one"), again.made), (self.store.again("one"), 2))

    def test_random_stores(self):
        for seed in range(40):
            chance = random.Random(seed)
            maker = LogMaker(seed)
            store = Store(maker.grow(8))
            for step in range(3):
                for _ in store.work(chance.choice([None, chance.randrange(len(store.log) + 1)])):
                    if chance.random() < 0.2:
                        break
                for table in list(store.log.tables())[:1 + step]:
                    moment = len(store.log)
                    store.ask(table, chance.randrange(4), moment, f"n{'abc'[step]}{table[:5]}"[:8])
                maker.grow(3)
                if chance.random() < 0.3:
                    store.drop()
            self.check_back(store)

    def test_records_are_told_in_the_words_of_the_document(self):
        for seed in range(40):
            chance = random.Random(seed)
            maker = LogMaker(seed)
            store = Store(maker.grow(6))
            for _ in range(4):
                maker.grow(3)
                for _ in store.work(chance.choice([None, chance.randrange(len(store.log) + 1)])):
                    pass
                codes = [entry for entry in store.log.entries() if entry[0] == "code"]
                if codes:
                    table, text, day = chance.choice(codes)[1:]
                    with store.trial(table, text, chance.randrange(3)) as trial:
                        trial.ask(table, chance.randrange(4))
            wanted = [told for told in [naive_record(store.log, record) for record in store.records()] if told]
            self.assertEqual([line for line in texts(store) if line.startswith("record ")], wanted)
            self.check_back(store)

    def test_a_store_that_goes_on(self):
        list(self.store.work())
        again, _ = recover(journal(self.store))
        again.log.put("sales", 0, ("north", 1))
        self.assertEqual((list(again.work()), again.made), ([("big", 0)], 5))
        self.assertEqual(len(self.log), 5)
        self.check_back(again)

    def test_dropping_what_was_read(self):
        lines = ["table t 1 a:number", "code u 0 t", "record u 0 1 t", "record u 4 1 t"]
        store, _ = recover(written(lines))
        self.assertEqual((store.made, store.needed(), store.drop(), store.records()), (2, [], 2, []))
        self.assertEqual((store.state_at("u", 0), store.compute("u", 0).rows, store.made), ("due", [], 3))
        self.assertEqual(written_anew(store), written(lines[:3]))
        store, _ = recover(written(lines))
        self.assertEqual((store.state_at("u", 0), store.state_at("u", 1), store.compute("u", 4).rows, store.made), ("fresh", "due", [], 2))

    def test_whatever_changes_changes_the_journal(self):
        again, _ = recover(journal(self.store))
        store = self.store
        for one in (store, again):
            for change in (
                lambda: one.log.put("sales", 2, ("east", 1)), lambda: one.compute("many", 2), lambda: one.ask("big", 0, None, "one"),
                lambda: one.ask("many", 0, None, "two"), lambda: one.forget("one"), lambda: one.ask("big", 1, None, "one"),
                lambda: one.forget("two"), lambda: one.log.put("sales", 2, ("east", 4)), one.drop, lambda: one.claim("ann").finish(),
            ):
                before = journal(one)
                change()
                self.assertNotEqual(journal(one), before)
                self.assertEqual(journal(one), written_anew(one))
        self.assertEqual(journal(store), journal(again))

    def test_a_long_chain(self):
        log = chain_log()
        store = Store(log)
        store.ask("u", 999, name="far")
        self.check_back(store)

    def test_odd_values(self):
        for odd in [*ODD_VALUES, 1, b""]:
            self.assertEqual(fields_of(self, InvalidText, recover, odd), {"value": odd})


class DamageTest(unittest.TestCase):
    def setUp(self):
        self.store = Store(sales_log())
        list(self.store.work())
        self.store.ask("big | keep shop", 0, 4, "one")
        self.text = journal(self.store)
        self.lines = self.text.split("\n")[:-1]
        self.starts = [0]
        for line in self.lines:
            self.starts.append(self.starts[-1] + len(line) + 1)
        self.stores = [recover("".join(line + "\n" for line in self.lines[:many]))[0] for many in range(len(self.lines) + 1)]

    def line_of(self, at):
        """The number of the line to which a character belongs."""
        return max(number for number, start in enumerate(self.starts[:-1]) if start <= at)

    def check(self, text, many):
        store, used = recover(text)
        self.assertEqual(used, many)
        self.assertTrue(store.log == self.stores[many].log)
        self.assertEqual((store.records(), store.names()), (self.stores[many].records(), self.stores[many].names()))

    def test_cut_off_at_every_place(self):
        for end in range(len(self.text) + 1):
            self.check(self.text[:end], sum(start <= end for start in self.starts[1:]))

    def test_each_character_changed(self):
        for at, sign in enumerate(self.text):
            for other in {"a", "0", " ", "#", "\n", "~", chr(ord(sign) + 1), "\u20ac", sign.upper()} - {sign}:
                self.check(self.text[:at] + other + self.text[at + 1:], self.line_of(at))

    def test_neighbours_exchanged(self):
        for at in range(len(self.text) - 1):
            one, other = self.text[at], self.text[at + 1]
            if one != other:
                self.check(self.text[:at] + other + one + self.text[at + 2:], self.line_of(at))

    def test_characters_left_out_and_put_in(self):
        for at in range(len(self.text)):
            self.check(self.text[:at] + self.text[at + 1:], self.line_of(at))
            self.check(self.text[:at] + "~" + self.text[at:], self.line_of(at))

    def test_signs_beyond_ascii(self):
        for sign in "\x80\xe9\u0665\ud800\udfff\U0001f600":
            self.check(self.text + sign, len(self.lines))
            self.check(sign + self.text, 0)
            for at in range(len(self.lines)):
                for line in (sign, self.lines[at] + sign, sign + self.lines[at], self.lines[at].replace(" ", sign, 1)):
                    self.check("\n".join([*self.lines[:at], line, *self.lines[at:], ""]), at)
                told = self.lines[at].rpartition(" ")[0] + sign
                self.check("".join(f"{one}\n" for one in self.lines[:at]) + f"{told} #{naive_number(at, told):07d}\n", at)

    def test_lines_that_cannot_stand_there(self):
        texts_now = [line.rpartition(" ")[0] for line in self.lines]
        self.assertEqual(written(texts_now), self.text)
        for at in range(len(texts_now)):
            for other in ("", "x", "record", "name", "#", texts_now[at] + " ", " " + texts_now[at], texts_now[at].upper()):
                self.check(written([*texts_now[:at], other, *texts_now[at:]]), at)


class ForgedTest(unittest.TestCase):
    def check(self, ahead, text, good=False):
        """Whether a line with a right check number is read behind others."""
        store, many = recover(written([*ahead, text]))
        self.assertEqual(many, len(ahead) + good, text)
        self.assertEqual(written_anew(store), written([*ahead, text][:many]))

    def test_entries_that_cannot_be_added(self):
        self.check(ENTRIES, "put sales 999 'a',-7", True)
        for text in (
            "table sales 1 a:number", "table where 1 a:number", "table t 0 a:number", "table t 2 a:number", "table t 1 a:thing",
            "table t 1 a:number,a:text", "table t 1 a", "table t 1 a:number:text", "table t 1 ", "table t 1", "table t",
            "put sales 0 'east'", "put sales 0 5,'east'", "put sales 0 'east',5,5", "put none 0 5", "put big 0 'east',5",
            "put sales 1000 'east',5", "put sales -1 'east',5", "delete sales 0 5", "delete sales 0 'east',5",
            "delete none 0 'east'", "put sales 0 'East',5", "put sales 0 'a_b',5", f"put sales 0 '{'a' * 21}',5",
            "code sales 0 big", "code where 0 sales", "code new 0 none", "code big 0 many", "code big 0 sales | keep shop",
            "code new 1000 sales", "code new 0 sales |", "code new 0 ", "code new 0", "other t 1 a:number", "table", "",
        ):
            self.check(ENTRIES, text)

    def test_forms_that_are_not_written(self):
        for text in (
            "put sales -0 'east',5", "put sales 00 'east',5", "put sales 01 'east',5", "put sales +1 'east',5",
            "put sales 0 'east',-0", "put sales 0 'east',05", "put sales 0 'east',+5", "put sales 0 'east',5 ",
            "put sales 0 'east', 5", "put  sales 0 'east',5", "put sales 0  'east',5", "put sales 0 \"east\",5",
            "put sales 0 'east',5_0", "put sales 0 'east',\u0665", f"put sales 0 'east',{10 ** 40}", "put sales 0 'east',",
            "put sales 0 ,5", "put sales 0 east,5", "put sales 0 ',5", "put sales x 'east',5", "put sales  'east',5",
            "table t 01 a:number", "table t 1 a:number,", "table t 1 a:number, b:text", "table t x a:number", "table t -1 a:number",
            "code new 0 (sales)", "code new 0 sales|keep shop", "code new 0  sales", "code new 0 sales ", "code new 00 sales",
            "code new x sales", "put sales 0 'east',5\r", "put\tsales 0 'east',5",
        ):
            self.check(ENTRIES, text)

    def test_records(self):
        for many in range(4):
            self.check([*ENTRIES, *RECORDS[:many]], RECORDS[many], True)
        self.check(ENTRIES, RECORDS[1], True)
        self.check([*ENTRIES, "put sales 0 'east',9", "put sales 0 'east',5"], RECORDS[0], True)
        self.check([*ENTRIES, "put sales 0 'east',9", "put sales 0 'east',5"], "record big 0 6 sales | where 3 < amount", True)
        self.check(ENTRIES, "record big 999 1 sales | where 3 < amount", True)
        self.check([*ENTRIES, "code big 0 sales"], RECORDS[0], True)
        self.check([*ENTRIES, "code far 0 sales - 7"], "record far 6 - sales - 7", True)

    def test_records_of_codes_that_held_from_an_earlier_day_on_later(self):
        ahead = [*ENTRIES, "code far 5 sales", "code far 2 sales"]
        self.check(ahead, "record far 1 3 sales")
        for day in (2, 3, 5, 9):
            self.check(ahead, f"record far {day} 1 sales", True)
        self.check([*ahead, "code far 7 sales"], "record far 2 1 sales", True)

    def test_contents_of_derived_tables_that_come_back(self):
        ahead = [*ENTRIES, "put sales 0 'east',9", "put sales 0 'east',8", "put sales 0 'east',9", "delete sales 0 'west'",
                 "put sales 0 'east',2", "put sales 0 'east',2"]
        for moment, good in ((3, False), (4, True), (5, False), (6, True), (7, True), (8, False), (9, False), (10, True), (11, False)):
            self.check(ahead, f"record many 0 {moment} big | group: many = count", good)

    def test_records_that_are_none(self):
        ahead = [*ENTRIES, "put sales 0 'east',9", "put sales 0 'east',5", "code far 1 sales - 7", "code two 0 big - 1 | union sales"]
        self.check(ahead, "record two 1 4,3 big - 1 | union sales", True)
        for text in (
            "record big 0 7 sales | where 3 < amount", "record big 0 1000 sales | where 3 < amount",
            "record big 1 2 sales | where 3 < amount", "record big 0 0 sales | where 3 < amount",
            "record big 0 -1 sales | where 3 < amount", "record big 0 - sales | where 3 < amount",
            "record big 0 2,2 sales | where 3 < amount", "record big 0 02 sales | where 3 < amount",
            "record big 0 2, sales | where 3 < amount", "record big 0  sales | where 3 < amount", "record big 0 2",
            "record big 0 x sales | where 3 < amount", "record big 00 2 sales | where 3 < amount",
            "record big 1000 1 sales | where 3 < amount", "record big -1 - sales | where 3 < amount",
            "record big 0 2 sales | where 4 < amount", "record big 0 2 sales|where 3 < amount", "record sales 0 2 sales",
            "record none 0 2 sales", "record far 0 - sales - 7", "record far 1 1 sales - 7", "record far 8 - sales - 7",
            "record many 0 5 big | group: many = count", "record two 1 4,2 big - 1 | union sales",
            "record two 1 3,4 big - 1 | union sales", "record two 1 4 big - 1 | union sales",
            "record two 0 4 big - 1 | union sales", "record", "record ", "record big",
        ):
            self.check(ahead, text)
        self.check([*ahead, RECORDS[0]], RECORDS[0])
        self.check([*ahead, *RECORDS[:2]], "put sales 3 'east',5")
        self.check([*ahead, RECORDS[0], RECORDS[1]], RECORDS[0])

    def test_names(self):
        self.check(ENTRIES, "name one 0 5 big | keep shop", True)
        self.check([*ENTRIES, *RECORDS], "name one 999 1 sales", True)
        self.check([*ENTRIES, "name one 0 5 big"], "name two 0 5 big", True)

    def test_names_that_cannot_be_given(self):
        for text in (
            "name where 0 5 big", "name One 0 5 big", "name toolongname 0 5 big", "name  0 5 big", "name one 1000 5 big",
            "name one -1 5 big", "name one 00 5 big", "name one x 5 big", "name one 0 6 big", "name one 0 -1 big", "name one 0 x big",
            "name one 0 05 big", "name one 0 3 big", "name one 0 0 sales", "name one 0 5 (big)", "name one 0 5 big ", "name one 0 5  big",
            "name one 0 5 none", "name one 0 5 big |", "name one 0 5 ", "name one 0 5", "name one", "name ", "name one 0 - big",
        ):
            self.check(ENTRIES, text)
        named = [*ENTRIES, *RECORDS[:1], "name one 0 5 big"]
        for text in ("name one 0 5 big", "name one 1 4 sales", RECORDS[1], "put sales 3 'east',5"):
            self.check(named, text)

    def test_check_numbers_are_those_of_the_line(self):
        right = written(ENTRIES)
        for wrong in (right.replace("#", "# "), right.replace(" #", "#"), right.replace(" #", "  #"), right.replace("#", "#0")):
            self.assertEqual(recover(wrong)[1], 0)
        lines = right.split("\n")
        self.assertEqual(recover("\n".join([lines[0], lines[2], lines[1], *lines[3:]]))[1], 1)
        self.assertEqual(recover("\n" + right)[1], 0)
        self.assertEqual(recover(right + "\n")[1], 5)


if __name__ == "__main__":
    unittest.main()
