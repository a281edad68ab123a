"""The console: commands as texts."""

import random
import unittest

from backfilled.console import Console
from backfilled.errors import (
    BadCode, BadColumns, BadDay, BadMoment, BadName, BadNumber, BadRow, BadText, BackfilledError, InvalidCommand,
    NameTaken, UnknownName, UnknownTable,
)
from backfilled.journals import journal
from backfilled.logs import Log
from backfilled.monitors import Monitor
from backfilled.stores import Store
from tests_support import ODD_VALUES, fields_of

START = ["table sales 1 shop:text,amount:number", "put sales 0 'east',5", "put sales 1 'west',2"]
CODES = ["code big 0 sales | where 3 < amount", "code many 0 big | group: many = count"]
LONG = "9" * 40


class CommandsTest(unittest.TestCase):
    def setUp(self):
        self.console = Console()
        for command in [*START, *CODES]:
            self.console.execute(command)

    def tells(self, *pairs):
        for command, wanted in pairs:
            self.assertEqual(self.console.execute(command), wanted, command)

    def test_a_new_store(self):
        console = Console()
        self.assertIsInstance(console.store, Store)
        self.assertIsInstance(console.store.log, Log)
        self.assertEqual((len(console.store.log), console.store.made), (0, 0))
        self.assertIsNot(console.store, Console().store)
        self.assertEqual([console.execute(word) for word in ("due", "count", "drop", "late", "work 9")], ["-", "0", "0", "-", "0"])

    def test_entries(self):
        self.tells(
            ("table t 2 a:number,b:text,c:number", "6"), ("put t 999 -5,'',0", "7"), ("delete t 0 7,'x'", "8"),
            ("code u 3 t|keep a", "9"), ("put t 0 1,' b  ',2", "10"), (f"put t 1 {LONG},'{'a ' * 10}',-{LONG}", "11"),
        )
        log = self.console.store.log
        self.assertEqual(log.entries()[5:], [
            ("table", "t", [("a", "number"), ("b", "text"), ("c", "number")], 2), ("put", "t", 999, (-5, "", 0)),
            ("delete", "t", 0, (7, "x")), ("code", "u", "t | keep a", 3), ("put", "t", 0, (1, " b  ", 2)),
            ("put", "t", 1, (int(LONG), "a " * 10, -int(LONG))),
        ])

    def test_states_and_rows(self):
        self.tells(
            ("state big 0", "due"), ("state many 0", "unknown"), ("state sales 7", "fresh"), ("count", "0"),
            ("rows big 1", "-"), ("rows big 0", "'east',5"), ("rows many 0", "1"), ("state many 0", "fresh"), ("count", "3"),
            ("put sales 0 'a b',9", "6"), ("rows big 0", "'a b',9 'east',5"), ("rows sales 1", "'west',2"), ("rows sales 9", "-"),
        )

    def test_answers(self):
        self.tells(
            ("ask 0 big | keep shop", "'east'"), ("ask 1 big", "-"), ("ask 0  sales", "'east',5"), ("ask 0 (sales) ", "'east',5"),
            ("name one 0 big", "'east',5"), ("put sales 0 'east',2", "6"), ("ask 0 big", "-"), ("again one", "'east',5"),
            ("then 0 5 big", "'east',5"), ("then 0 6 big", "-"), ("then 1 3 sales last 2", "0,'east',5 1,'west',2"),
        )
        self.assertEqual(self.console.store.names(), ["one"])
        self.tells(("forget one", "ok"), ("name one 1 sales", "'west',2"))
        self.assertEqual(self.console.store.names(), ["one"])

    def test_work(self):
        self.tells(
            ("due", "big:0 big:1"), ("work 0", "0"), ("count", "0"), ("work 1", "1"), ("due", "many:0 big:1"), ("count", "1"),
            ("work 2", "2"), ("due", "many:1"), ("work 9999", "1"), ("due", "-"), ("work 5", "0"), ("count", "4"),
        )

    def test_dropping(self):
        self.tells(("work 9", "4"), ("drop", "0"), ("put sales 0 'east',1", "6"), ("drop", "2"), ("due", "big:0"), ("count", "4"))

    def test_late(self):
        self.tells(("late", "-"), ("put sales 0 'west',7", "6"), ("late", "6"), ("delete sales 0 'west'", "7"), ("late", "6 7"))

    def test_rows_with_several_columns_and_signs(self):
        self.tells(
            ("table t 3 a:number,b:text,c:number", "6"), ("put t 0 -1,'',0", "7"), ("put t 0 -1,' ',10", "8"),
            ("rows t 0", "-1,'',0 -1,' ',10"),
        )


class FormsTest(unittest.TestCase):
    def setUp(self):
        self.console = Console()
        for command in [*START, *CODES]:
            self.console.execute(command)
        self.before = journal(self.console.store)

    def refuses(self, error, *commands, **fields):
        for command in commands:
            with self.subTest(command=command):
                wanted = fields or {"value": command}
                self.assertEqual(fields_of(self, error, self.console.execute, command), wanted)
                self.assertEqual((journal(self.console.store), self.console.store.made), (self.before, 0))

    def test_other_values(self):
        for odd in [*ODD_VALUES, 5, b"due"]:
            fields = fields_of(self, InvalidCommand, self.console.execute, odd)
            self.assertIs(fields["value"], odd)

    def test_words(self):
        self.refuses(
            InvalidCommand, "", " ", "  ", "other", "Due", "due ", " due", "due due", "count 1", "drop x", "late ", "work",
            "table", "table t", "table t 1", "put", "put t", "put t 0", "delete t 0", "code t 0", "state", "state big",
            "state big 0 0", "rows u", "rows big 0 1", "ask", "ask 0", "then 0 5", "then 0", "name one 0", "name one", "again",
            "again one two", "forget", "forget one two", "due\n", "\tdue", "again\u00a0one",
        )

    def test_empty_words(self):
        self.refuses(
            InvalidCommand, "table  t 1 a:number", "table t  1 a:number", "table t 1  a:number", "table t 1 a:number ",
            "table t 1 ", "put  sales 0 'a',1", "put sales  0 'a',1", "put sales 0 ", "delete sales 0 ", "code  u 0 sales",
            "code u  0 sales", "code u 0 ", "state  big 0", "state big  0", "state big 0 ", "rows big 0 ", "ask  0 big", "ask 0 ",
            "then 0  5 big", "then 0 5 ", "name  one 0 big", "name one  0 big", "name one 0 ", "again ", "again  one",
            "again one ", "forget ", "work ", "work 1 ", "work  1",
        )

    def test_numbers(self):
        for odd in ("-", "-0", "01", "00", "-01", "+1", "1.0", "x", "0x1", "1_0", "\u0661", "--1", "1-", "9" * 41, "-" + "9" * 41):
            self.refuses(
                InvalidCommand, f"table t {odd} a:number", f"put sales {odd} 'a',1", f"delete sales {odd} 'a'",
                f"code u {odd} sales", f"state big {odd}", f"rows big {odd}", f"ask {odd} big", f"then {odd} 5 big",
                f"then 0 {odd} big", f"name one {odd} big", f"put sales 0 'a',{odd}", f"work {odd}",
            )
        self.refuses(InvalidCommand, "work -1", "work 10000", "work 0000", "work 12345", f"work {LONG}")

    def test_numbers_that_have_the_form(self):
        for sign in ("", "-"):
            number = int(sign + LONG)
            self.refuses(BadDay, f"put sales {sign}{LONG} 'a',1", f"delete sales {sign}{LONG} 'a'", value=number)
            self.refuses(BadDay, f"state big {sign}{LONG}", f"rows big {sign}{LONG}", f"ask {sign}{LONG} big", value=number)
            self.refuses(BadDay, f"code u {sign}{LONG} sales", f"then {sign}{LONG} 5 big", f"name a {sign}{LONG} big", value=number)
            self.refuses(BadMoment, f"then 0 {sign}{LONG} big", moment=number)
            self.refuses(BadNumber, f"table t {sign}{LONG} a:number", value=number)

    def test_values(self):
        self.refuses(
            InvalidCommand, "put sales 0 a,1", "put sales 0 'a',", "put sales 0 ,1", "put sales 0 'a', 1", "put sales 0 'a' ,1",
            "put sales 0  'a',1", "put sales 0 'a',1 ", "put sales 0 'A',1", "put sales 0 'a_',1", "put sales 0 'a,b',1",
            f"put sales 0 '{'a' * 21}',1", "put sales 0 ',1", "put sales 0 'a,1", "put sales 0 \"a\",1", "put sales 0 'a''b',1",
            "put sales 0 '\u00e4',1", "delete sales 0 a", "delete sales 0 'a',", "delete sales 0 '", "put none 0 x", "put sales 0 '\n',1",
        )

    def test_columns(self):
        self.refuses(InvalidCommand, "table t 1 ,", "table t 1 a:number,", "table t 1 ,a:number", "table t 1 a:number,,b:text",
                     "table t 1 a:number, b:text", "table t 1 a: number")
        for columns, found in [
            ("a", [("a",)]), ("a:number:x", [("a", "number", "x")]), (":", [("", "")]), ("::", [("", "", "")]), ("a:", [("a", "")]),
            (":number", [("", "number")]), ("a:number,b", [("a", "number"), ("b",)]), ("a:number,a:text", [("a", "number"), ("a", "text")]),
            ("where:number", [("where", "number")]), ("a:thing", [("a", "thing")]), ("A:number", [("A", "number")]),
            (",".join(f"{name}:text" for name in "abcdefghijk"), [(name, "text") for name in "abcdefghijk"]),
        ]:
            self.refuses(BadColumns, f"table t 1 {columns}", value=found)

    def test_errors_of_what_is_done(self):
        self.refuses(BadName, "table where 1 a:number", value="where")
        self.refuses(BadName, "code Big 0 sales", value="Big")
        self.refuses(BadName, "code a\nb 0 sales", value="a\nb")
        self.refuses(BadName, "name toolongname 0 big", value="toolongname")
        self.refuses(NameTaken, "table sales 1 a:number", "code sales 0 big", name="sales")
        self.refuses(BadNumber, "table t 0 a:number", value=0)
        self.refuses(BadNumber, "table t 2 a:number", value=2)
        self.refuses(UnknownTable, "put none 0 5", "delete none 0 5", "state none 0", "rows none 0", name="none")
        self.refuses(UnknownTable, "put big 0 'a',5", "delete big 0 'a'", name="big")
        self.refuses(BadRow, "put sales 0 5", value=(5,))
        self.refuses(BadRow, "put sales 0 'a','5'", value=("a", "5"))
        self.refuses(BadRow, "delete sales 0 'a',5", value=("a", 5))
        self.refuses(BadText, "ask 0 big |", "code u 0 big |", "name one 0 big |", "then 0 5 big |", at=5)
        self.refuses(BadText, "ask 0  ", at=1)
        self.refuses(BadText, "ask 0 \tbig", at=0)
        self.refuses(BadCode, "ask 0 none", "code u 0 none", "name one 0 none", part=("table", "none", 0))
        self.refuses(BadCode, "code big 0 sales | keep shop", part=None)
        self.refuses(BadDay, "put sales 1000 'a',1", "state big 1000", "ask 1000 big", value=1000)
        self.refuses(BadMoment, "then 0 6 big", moment=6)
        self.refuses(BadMoment, "then 0 -1 big |", moment=-1)
        self.refuses(UnknownName, "again one", "forget one", name="one")

    def test_a_name_that_is_taken(self):
        self.console.execute("name one 0 sales")
        self.before = journal(self.console.store)
        self.refuses(NameTaken, "name one 0 big", name="one")
        self.assertEqual(self.console.execute("again one"), "'east',5")


class RandomTest(unittest.TestCase):
    """A console and a store to which the same is done."""

    def do(self, store, command):
        word, *rest = command.split(" ", 2)
        if word in ("put", "delete"):
            day, values = rest[1].split(" ", 1)
            return getattr(store.log, word)(rest[0], int(day), tuple(eval(value) for value in values.split(",")))
        if word == "code":
            day, text = rest[1].split(" ", 1)
            return store.log.set_code(rest[0], text, int(day))
        if word == "state":
            return store.state_at(rest[0], int(rest[1]))
        if word == "rows":
            return store.compute(rest[0], int(rest[1]))
        if word == "ask":
            return store.ask(rest[1], int(rest[0])).content
        if word == "then":
            moment, text = rest[1].split(" ", 1)
            return store.ask(text, int(rest[0]), int(moment)).content
        if word == "name":
            day, text = rest[1].split(" ", 1)
            return store.ask(text, int(day), name=rest[0]).content
        if word == "again":
            return store.again(rest[0]).content
        if word == "forget":
            return store.forget(rest[0])
        if word == "due":
            return [f"{table}:{day}" for table, day in store.due()]
        if word == "work":
            return len([part for _, part in zip(range(int(rest[0])), store.work())])
        if word == "late":
            return Monitor(store).late()
        return {"count": lambda: store.made, "drop": store.drop}[word]()

    def told(self, value):
        if value is None:
            return "ok"
        if isinstance(value, list):
            return " ".join(map(str, value)) or "-"
        if isinstance(value, (int, str)):
            return str(value)
        return " ".join(",".join(map(repr, row)) for row in value.rows) or "-"

    def command(self, chance):
        day = chance.randrange(4)
        table = chance.choice(["sales", "big", "many", "none"])
        question = chance.choice(["big", "sales last 2", "big | join many", "many - 1", "sales |"])
        return chance.choice([
            f"put sales {day} '{chance.choice(['east', 'a b', ''])}',{chance.randrange(9)}", f"delete sales {day} 'east'",
            f"code big {day} sales | where {chance.randrange(9)} < amount", f"code more {day} {table}", f"state {table} {day}",
            f"rows {table} {day}", f"ask {day} {question}", f"then {day} {chance.randrange(9)} {question}",
            f"name {chance.choice(['one', 'two'])} {day} {question}", f"again {chance.choice(['one', 'two'])}",
            f"forget {chance.choice(['one', 'two'])}", "due", f"work {day}", "count", "drop", "late",
        ])

    def test_the_same_is_done(self):
        for seed in range(25):
            chance = random.Random(seed)
            console, store = Console(), Store(Log())
            store.log.add_table("sales", [("shop", "text"), ("amount", "number")])
            console.execute(START[0])
            for command in [*START[1:], *CODES, *[self.command(chance) for _ in range(60)]]:
                try:
                    wanted = self.told(self.do(store, command))
                except BackfilledError as error:
                    self.assertEqual(fields_of(self, type(error), console.execute, command), vars(error), command)
                else:
                    self.assertEqual(console.execute(command), wanted, command)
                self.assertEqual(console.store.made, store.made)
            self.assertEqual(journal(console.store), journal(store))


if __name__ == "__main__":
    unittest.main()
