"""Good journals with one further line that cannot stand there, though its check number is right: [19]."""

import unittest

from backfilled.journals import journal, recover
from stores_support import fields, texts, written, written_anew
from test_recover_random import Reader

ENTRIES = [
    "table sales 1 shop:text,amount:number", "put sales 0 'a  b',-12", "put sales 2 'east',0",
    "code big 0 sales | where -99 < amount", "delete sales 2 'west'", "code many 1 big | group: n = count",
    "put sales 2 'west',7", "code big 2 sales",
]
RECORDS = [
    "record big 0 2 sales | where -99 < amount", "record big 2 7 sales", "record big 2 3 sales | where -99 < amount",
    "record many 2 4 big | group: n = count", "record many 1 4 big | group: n = count",
]
NAMES = ["name one 0 8 sales last 2", "name three 3 2 sales - 1"]
# Each journal with a good line that may stand behind it.
JOURNALS = [
    (ENTRIES, "put sales 1 'north',5"), (ENTRIES + RECORDS, "record many 2 7 big | group: n = count"),
    (ENTRIES + RECORDS + NAMES, "name two 1 8 big | keep shop"),
]
# What [19] asks of a line, and lines that do not have it.
WRONG = {
    "one of the forms": [
        "", "x", "put", "record", "name", "other t 1 a:number", "PUT sales 1 'north',5", " put sales 1 'north',5",
        "put sales 1 'north',5 ", "put  sales 1 'north',5", "put sales 1  'north',5", "put sales 1", "put sales 1 ", "code t 0",
        "table t 1", "record big 1 1", "name two 0 8", "put\tsales 1 'north',5", "put sales 1 'north',5\r", "put s\u00e4les 1 'north',5",
    ],
    "numbers as they are written": [
        "put sales 01 'north',5", "put sales +1 'north',5", "put sales -0 'north',5", "put sales one 'north',5",
        "put sales 1 'north',05", "put sales 1 'north',-0", "put sales 1 'north',+5", "put sales 1 'north',5_0",
        f"put sales 1 'north',{10 ** 40}", f"put sales 1 'north',-{10 ** 40}", "put sales 1 'north',\u0665", "table t 01 a:number",
        "record big 00 2 sales | where -99 < amount", "record big 1 01 sales | where -99 < amount", "name two 00 8 sales",
        "name two 0 08 sales",
    ],
    "values as they are written": [
        "put sales 1 north,5", "put sales 1 \"north\",5", "put sales 1 'North',5", "put sales 1 'no_rth',5", "put sales 1 'north', 5",
        f"put sales 1 '{'a' * 21}',5", "put sales 1 ',5", "put sales 1 'north,5", "put sales 1 ,5", "put sales 1 'north',",
    ],
    "codes as they are shown": [
        "code t 0 (sales)", "code t 0 sales|keep shop", "code t 0 sales | keep  shop", "code t 0 sales | where amount < - 5",
        "code t 0 sales | where amount <5", "code t 0 sales | where [amount < 5]", "code t 0 sales -1", "code t 0 sales | group : n = count",
        "record big 1 1 (sales)", "record big 1 1 sales | where - 99 < amount", "name two 0 8 (sales)", "name two 0 8 sales|keep shop",
    ],
    "codes at all": [
        "code t 0 ", "code t 0 sales |", "code t 0 sales | keep", "code t 0 sales | where amount <", "code t 0 sales last 31",
        "code t 0 sales last 0", "code t 0 sales | other shop", "code t 0 sales ?", f"code t 0 sales | keep {'shop ' * 130}shop",
        "name two 0 8 sales |", "name two 0 8 ",
    ],
    "tables that can be added": [
        "table sales 1 a:number", "table big 1 a:number", "table where 1 a:number", "table toolongname 1 a:number", "table T 1 a:number",
        "table t 0 a:number", "table t 2 a:number", "table t -1 a:number", "table t x a:number", "table t 1 a:thing", "table t 1 a",
        "table t 1 a:number:text", "table t 1 a:number,a:text", "table t 1 a:number,", "table t 1 last:number", "table t 1 ",
        "table t 1 " + ",".join(f"a{chr(97 + at)}:number" for at in range(11)),
    ],
    "rows that can be put or deleted": [
        "put sales 1 'north'", "put sales 1 'north',5,6", "put sales 1 5,'north'", "put sales 1 'north','5'", "put other 1 'north',5",
        "put big 1 'north',5", "put sales 1000 'north',5", "put sales -1 'north',5", "delete sales 1 'north',5", "delete sales 1 5",
        "delete other 1 'north'", "delete many 1 5", "delete sales 1000 'north'", "delete sales 1 ",
    ],
    "codes that can be set": [
        "code sales 0 big", "code where 0 sales", "code toolongname 0 sales", "code t 1000 sales", "code t -1 sales", "code t 0 other",
        "code t 0 t", "code big 0 big", "code big 0 many - 1", "code big 0 sales | keep shop", "code big 0 sales | rename shop place",
        "code t 0 sales | where shop < 5", "code t 0 sales | with shop = 5", "code t 0 sales | keep other", "code t 0 sales join big",
        "code t 0 sales | union many", "code many 1 big | group: n = count, n = count", "code many 1 big | group: n = sum shop",
        "code many 1 many | group: n = count", "code big 3 sales | join (many | with shop = 'a') | keep shop amount",
        "code t 0 sales last 2 | last 2",
    ],
    "records of codes that held there": [
        "record big 1 1 sales | where -98 < amount", "record big 1 1 sales", "record many 0 4 big | group: n = count",
        "record many 2 4 big | group: m = count", "record sales 0 2 sales", "record other 0 2 sales", "record big 1000 1 sales",
        "record big -1 1 sales", "record big x 1 sales",
    ],
    "inputs told by the least moments": [
        "record big 1 0 sales | where -99 < amount", "record big 1 2 sales | where -99 < amount", "record big 1 9 sales | where -99 < amount",
        "record big 1 -1 sales | where -99 < amount", "record big 0 3 sales | where -99 < amount", "record big 2 5 sales",
        "record big 2 2 sales", "record big 2 8 sales", "record big 1 - sales | where -99 < amount", "record big 1 1,1 sales | where -99 < amount",
        "record big 1 x sales | where -99 < amount", "record big 1  sales | where -99 < amount", "record many 2 3 big | group: n = count",
        "record many 2 5 big | group: n = count", "record many 2 6 big | group: n = count", "record many 2 8 big | group: n = count",
        "record many 1 5 big | group: n = count", "record many 1 8 big | group: n = count", "record many 1 1 big | group: n = count",
    ],
    "answers that can be named": [
        "name where 0 8 sales", "name toolongname 0 8 sales", "name Two 0 8 sales", "name  0 8 sales", "name two 1000 8 sales",
        "name two -1 8 sales", "name two x 8 sales", "name two 0 9 sales", "name two 0 -1 sales", "name two 0 x sales", "name two 0 - sales",
        "name two 0 0 sales", "name two 0 3 big", "name two 0 5 many", "name two 0 8 other", "name two 0 8 sales | where shop < 5",
    ],
}
# Those that cannot stand there only because of the lines ahead, for each of the journals.
AHEAD = [
    [],
    ["put sales 1 'north',5", "delete sales 1 'north'", "table t 1 a:number", "code t 0 sales", *RECORDS],
    ["put sales 1 'north',5", "delete sales 1 'north'", "table t 1 a:number", "code t 0 sales", *RECORDS, "record big 1 1 sales | where -99 < amount",
     "record many 2 7 big | group: n = count", *NAMES, "name one 3 1 sales"],
]


class WrongLinesTest(unittest.TestCase):
    def answers(self, text, good, base):
        """The store of the good lines is what a text is answered by, and their number."""
        store, many = recover(text)
        self.assertEqual((many, journal(store)), (len(base), written(base)))
        self.assertEqual((texts(store), written_anew(store)), (base, written(base)))
        self.assertEqual((store.made, store.names(), len(store.log)), (good.made, good.names(), len(good.log)))
        self.assertTrue(store.log == good.log)
        self.assertEqual([fields(one) for one in store.records()], [fields(one) for one in good.records()])
        self.assertEqual([store.again(name) for name in store.names()], [good.again(name) for name in good.names()])

    def test_good_journals(self):
        for base, behind in JOURNALS:
            for lines in (base, [*base, behind]):
                store, many = recover(written(lines))
                self.assertEqual((many, written_anew(store)), (len(lines), written(lines)))
                self.assertEqual(len(store.log), sum(line.split(" ")[0] in ("table", "put", "delete", "code") for line in lines))
                self.assertEqual((store.made, len(store.names())), tuple(sum(line.startswith(word) for line in lines) for word in ("record", "name")))
        store, _ = recover(written(ENTRIES + RECORDS))
        self.assertEqual(
            [(one.table, one.day, one.code, one.content.rows) for one in store.records()],
            [("big", 0, "sales | where -99 < amount", [("a  b", -12)]), ("big", 2, "sales", [("east", 0), ("west", 7)]),
             ("big", 2, "sales | where -99 < amount", [("east", 0)]), ("many", 2, "big | group: n = count", [(1,)]),
             ("many", 1, "big | group: n = count", [])],
        )

    def test_lines_that_cannot_stand_there(self):
        many = 0
        for (base, behind), more in zip(JOURNALS, AHEAD):
            for wrong in [*[line for lines in WRONG.values() for line in lines], *more]:
                with self.subTest(wrong, lines=len(base)):
                    self.answers(written([*base, wrong, behind]), recover(written(base))[0], base)
                    many += 1
        self.assertGreater(many, 3 * 150)

    def test_the_naive_reader_says_the_same(self):
        for (base, behind), more in zip(JOURNALS, AHEAD):
            for wrong in [behind, *[line for lines in WRONG.values() for line in lines], *more]:
                reader = Reader()
                self.assertTrue(all(reader.takes(line) for line in base))
                self.assertEqual(reader.takes(wrong), wrong == behind, wrong)

    def test_wrong_lines_in_the_middle(self):
        whole = ENTRIES + RECORDS + NAMES
        for at in range(len(whole)):
            base = whole[:at]
            good = recover(written(base))[0]
            for wrong in ("put nosuch 0 5", "code t 0 nosuch", "record big 9 0 sales", "name two 0 99 sales", "table t 9 a:number"):
                self.answers(written([*base, wrong, *whole[at:]]), good, base)


if __name__ == "__main__":
    unittest.main()
