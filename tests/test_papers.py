"""Papers: of each kind of part, whoever wrote them, and papers that are refused."""

import copy
import random
import unittest

from backfilled.codes import parse, show
from backfilled.errors import BadCode, BadDay, BadMoment, BadText
from backfilled.logs import Log
from backfilled.papers import check_paper, paper_for
from backfilled.truth import evaluate, from_scratch, scratch_answer
from stores_support import COLUMNS, LogMaker, chain_log, sales_log
from tests_support import ODD_VALUES, ValidCodes, fields_of, naive_columns


class Judge:
    """Says of each line by itself whether it is right, in the document's words."""

    def __init__(self, log, question, day, moment):
        self.log, self.day, self.moment = log, day, moment
        self.code = parse(question)
        self.tables = log.tables(moment)

    def accepts(self, row, paper):
        good = isinstance(paper, list) and len(paper) > 0
        for at, line in enumerate(paper if good else []):
            good = good and self.is_line(line) and self.is_right(line, paper, at)
        return good and paper[-1][:4] == (None, self.day, (), row) and [type(x) for x in paper[-1][3]] == [type(x) for x in row]

    def part(self, table, day, path):
        """The part of the code at a path; None if there is none."""
        if table is None:
            part = self.code if day == self.day else None
        else:
            text = self.log.code_at(table, day, self.moment)
            part = None if text is None else parse(text)
        for step in path:
            if part is None or part[0] in ("table", "last") or step == 1 and part[0] not in ("join", "union", "minus"):
                return None
            part = part[1 + step]
        return part

    def is_line(self, line):
        """Whether any value has the form of a line."""
        if not isinstance(line, tuple) or len(line) != 5:
            return False
        table, day, path, row, reason = line
        if type(day) is not int or not 0 <= day <= 999 or not isinstance(path, tuple) or not isinstance(row, tuple):
            return False
        if any(type(step) is not int or step not in (0, 1) for step in path):
            return False
        if table is not None and (not isinstance(table, str) or table not in self.tables):
            return False
        return isinstance(reason, tuple) and len(reason) > 0 and isinstance(reason[0], str)

    def rows(self, part, day):
        return evaluate(part, day, self.tables, lambda name, on: from_scratch(self.log, name, on, self.moment)).rows

    def is_right(self, line, paper, at):
        table, day, path, row, (word, *rest) = line
        if table is not None and self.log.is_raw(table, self.moment):
            return self.is_raw_line(line)
        part = self.part(table, day, path)
        if part is None:
            return False
        kinds = naive_columns(part, self.tables)
        if [{int: "number", str: "text"}.get(type(item)) for item in row] != list(kinds.values()):
            return False
        indexes = rest
        if word == "all":
            if len(rest) != 1 or not isinstance(rest[0], tuple):
                return False
            indexes = rest[0]
        if any(type(index) is not int or not 0 <= index < at for index in indexes):
            return False
        told = [paper[index][:4] for index in indexes]
        return self.follows(part, line, kinds, told)

    def is_raw_line(self, line):
        table, day, path, row, reason = line
        if path != () or reason[0] != "raw" or len(reason) != 2 or type(reason[1]) is not int:
            return False
        if not 1 <= reason[1] <= (len(self.log) if self.moment is None else self.moment):
            return False
        if self.log[reason[1]] != ("put", table, day, row) or [type(x) for x in self.log[reason[1]][3]] != [type(x) for x in row]:
            return False
        entries = self.log.entries()[reason[1]:self.moment]
        keys = next(entry[3] for entry in self.log.entries() if entry[:2] == ("table", table))
        return not any(entry[0] in ("put", "delete") and entry[1:3] == (table, day) and entry[3][:keys] == row[:keys]
                       for entry in entries)

    def follows(self, part, line, kinds, told):
        """Whether a row of a part follows from the lines that its reason names."""
        table, day, path, row, (word, *_) = line
        step = part[0]
        if step == "table":
            return word == "row" and part[2] <= day and told == [(part[1], day - part[2], (), row)]
        if step == "last":
            return word == "row" and 0 <= day - row[0] < part[2] and told == [(part[1], row[0], (), row[1:])]
        ahead = (table, day, path + (0,))
        if [place[:3] for place in told] != [ahead] * len(told) and step not in ("join", "union"):
            return False
        rows = [place[3] for place in told]
        if step == "where":
            return word == "same" and rows == [row] and row in self.rows(part, day)
        if step == "rename":
            return word == "same" and rows == [row]
        if step == "with":
            return word == "with" and rows == [row[:-1]] and row in self.rows(part, day)
        if step == "minus":
            return word == "not" and rows == [row] and row in self.rows(part, day)
        before = naive_columns(part[1], self.tables)
        if step == "keep":
            named = [dict(zip(before, one)) for one in rows]
            return word == "from" and len(rows) == 1 and tuple(named[0][name] for name in part[2]) == row
        if step == "group":
            members = [one for one in self.rows(part[1], day) if row[:len(part[2])] == tuple(dict(zip(before, one))[n] for n in part[2])]
            return word == "all" and rows == members and row in self.rows(part, day)
        second = naive_columns(part[2], self.tables)
        other = ((table, day, path + (1,)), tuple(dict(zip(kinds, row))[name] for name in second))
        first = (ahead, row[:len(before)])
        places = [(place[:3], place[3]) for place in told]
        if step == "join":
            return word == "both" and places == [first, other]
        return word == "one" and places == [(ahead, row)] or word == "other" and places == [other]


def changed(chance, worth):
    """Another value near a value, at any depth."""
    if isinstance(worth, tuple) and worth and chance.random() < 0.8:
        at = chance.randrange(len(worth))
        return (*worth[:at], changed(chance, worth[at]), *worth[at + 1:])
    if isinstance(worth, tuple):
        return chance.choice([worth + (0,), worth[1:], worth[:-1], worth[::-1], list(worth), None])
    if isinstance(worth, int):
        return chance.choice([worth + 1, worth - 1, 0, 1, bool(worth), float(worth), str(worth), None])
    return chance.choice([None, "u", "sales", "raw", "row", "same", "one", "other", "all", "", 0, "east"])


class KindsTest(unittest.TestCase):
    def setUp(self):
        self.log = sales_log()
        self.log.put("sales", 1, ("east", 7))

    def check(self, question, day, row, wanted):
        paper = paper_for(self.log, question, day, row)
        self.assertEqual(paper[-1][4][0], wanted)
        self.assertTrue(check_paper(self.log, question, day, row, paper))
        return paper

    def test_each_kind_of_part(self):
        self.check("sales", 0, ("east", 5), "row")
        self.check("sales - 1", 1, ("east", 5), "row")
        self.check("big", 1, ("east", 7), "row")
        self.check("big last 2", 1, (0, "east", 5), "row")
        self.check("sales | where amount = 7", 1, ("east", 7), "same")
        self.check("sales | rename shop name", 1, ("east", 7), "same")
        self.check("sales | with twice = 2 * amount", 1, ("east", 7, 14), "with")
        self.check("sales last 2 | keep shop", 1, ("east",), "from")
        self.check("sales | join (sales - 1 | rename amount before)", 1, ("east", 7, 5), "both")
        self.check("sales | union (sales - 1 | keep amount shop)", 1, ("west", 2), "one")
        self.check("sales | union (sales - 1 | keep amount shop)", 1, ("east", 5), "other")
        self.check("sales | minus (sales - 1)", 1, ("east", 7), "not")
        paper = self.check("sales last 2 | group shop: n = count, most = greatest amount", 1, ("east", 2, 7), "all")
        self.assertEqual(len(paper[-1][4][1]), 2)

    def test_a_paper_in_full(self):
        paper = paper_for(log=self.log, question="many", day=1, row=(1,), moment=None)
        self.assertEqual(paper, [
            ("sales", 1, (), ("east", 7), ("raw", 6)), ("big", 1, (0,), ("east", 7), ("row", 0)),
            ("big", 1, (), ("east", 7), ("same", 1)), ("many", 1, (0,), ("east", 7), ("row", 2)),
            ("many", 1, (), (1,), ("all", (3,))), (None, 1, (), (1,), ("row", 4)),
        ])

    def test_no_row(self):
        for odd in [*ODD_VALUES, 1, "east", ("east", 6), ("east", True), ("east",), ["east", 5], ("east", 5, 0)]:
            self.assertIsNone(paper_for(self.log, "sales", 0, odd))
            self.assertIs(check_paper(self.log, "sales", 0, odd, paper_for(self.log, "sales", 0, ("east", 5))), False)
        self.assertIsNone(paper_for(self.log, "sales", 0, ("east", 5), 1))

    def test_True_is_no_number(self):
        self.log.put("sales", 5, ("east", 1))
        paper = [("sales", 5, (), ("east", True), ("raw", 7)), (None, 5, (), ("east", True), ("row", 0))]
        self.assertFalse(check_paper(self.log, "sales", 5, ("east", True), paper))
        self.assertFalse(check_paper(self.log, "sales", 5, ("east", 1), paper))
        right = paper_for(self.log, "sales", 5, ("east", 1))
        self.assertTrue(check_paper(self.log, "sales", 5, ("east", 1), right))
        self.assertFalse(check_paper(self.log, "sales", 5, ("east", True), right))

    def test_moments(self):
        self.log.put("sales", 0, ("east", 9))
        self.log.delete("sales", 1, ("west",))
        old = paper_for(self.log, "sales", 0, ("east", 5), 6)
        self.assertEqual(old[0][4], ("raw", 2))
        self.assertTrue(check_paper(self.log, "sales", 0, ("east", 5), old, 6))
        self.assertFalse(check_paper(self.log, "sales", 0, ("east", 5), old))
        west = paper_for(self.log, "sales", 1, ("west", 2), 7)
        self.assertTrue(check_paper(self.log, "sales", 1, ("west", 2), west, moment=7))
        self.assertFalse(check_paper(self.log, "sales", 1, ("west", 2), west, 8))
        self.log.put("sales", 0, ("east", 5))
        new = paper_for(self.log, "sales", 0, ("east", 5))
        self.assertEqual(new[0][4], ("raw", 9))
        self.assertFalse(check_paper(self.log, "sales", 0, ("east", 5), old))
        self.assertFalse(check_paper(self.log, "sales", 0, ("east", 5), new, 6))

    def test_chains(self):
        log = chain_log()
        paper = paper_for(log, "u", 999, (1,))
        self.assertEqual((len(paper), paper[0]), (2001, ("t", 0, (), (1,), ("raw", 2))))
        self.assertTrue(check_paper(log, "u", 999, (1,), paper))
        self.assertFalse(check_paper(log, "u", 999, (1,), paper[1:]))

    def test_errors(self):
        for call in (lambda *asked: paper_for(*asked[:4], *asked[5:]), check_paper):
            for odd in [*ODD_VALUES[1:], -1, 7]:
                self.assertEqual(fields_of(self, BadMoment, call, self.log, "|", -1, 0, 0, odd), {"moment": odd})
            for odd in ODD_VALUES:
                self.assertEqual(fields_of(self, BadText, call, self.log, odd, -1, 0, 0), {"at": None})
                self.assertEqual(fields_of(self, BadDay, call, self.log, "big", odd, 0, 0), {"value": odd})
            self.assertEqual(fields_of(self, BadCode, call, self.log, "big", -1, 0, 0, 3), {"part": ("table", "big", 0)})


class CheckTest(unittest.TestCase):
    def setUp(self):
        self.log = Log()
        self.log.add_table("sales", COLUMNS)
        for shop, amount in (("east", 5), ("west", 5), ("north", 5), ("south", 1)):
            self.log.put("sales", 0, (shop, amount))

    def test_other_orders_rows_and_lines_that_nothing_leads_to(self):
        raw = [("sales", 0, (), self.log[moment][3], ("raw", moment)) for moment in (2, 3, 4, 5)]
        read = [(None, 0, (0,), line[3], ("row", at)) for at, line in enumerate(raw)]
        last = [(None, 0, (), (5,), ("from", 4))]
        check = lambda paper: check_paper(self.log, "sales | keep amount", 0, (5,), paper)
        self.assertTrue(check(raw + read + last))
        self.assertTrue(check(raw + read + [(None, 0, (), (5,), ("from", 6))]))
        self.assertFalse(check(raw + read + [(None, 0, (), (5,), ("from", 7))]))
        self.assertTrue(check(raw + read + last + last))
        self.assertFalse(check(raw + read + last + raw))
        self.assertTrue(check([raw[1], raw[2], (None, 0, (0,), raw[1][3], ("row", 0)), (None, 0, (), (5,), ("from", 2))]))
        self.assertFalse(check(raw + read))
        self.assertFalse(check([]))
        self.assertFalse(check(tuple(raw + read + last)))
        self.assertFalse(check([*raw[:3], ("sales", 0, (), ("south", 1), ("raw", 4)), *read, *last]))
        for path in ((0,), (1,), (0, 0), [], None, 0):
            self.assertFalse(check([*raw, *read, ("sales", 0, path, ("south", 1), ("raw", 5)), *last]))

    def test_groups(self):
        question = "sales | where 1 < amount | group amount: n = count"
        paper = paper_for(self.log, question, 0, (5, 3))
        indexes = paper[-1][4][1]
        self.assertEqual([paper[at][3][0] for at in indexes], ["east", "north", "west"])
        for others in (indexes[::-1], indexes[1:], indexes[:2], indexes + indexes[:1], (), indexes[0], list(indexes)):
            self.assertFalse(check_paper(self.log, question, 0, (5, 3), [*paper[:-1], (*paper[-1][:4], ("all", others))]))
        self.assertFalse(check_paper(self.log, question, 0, (5, 3), [*paper[:-1], (*paper[-1][:4], ("all", *indexes))]))
        few = [*paper[:-1], (None, 0, (), (5, 2), ("all", indexes[:2]))]
        self.assertFalse(check_paper(self.log, question, 0, (5, 2), few))

    def test_indexes_are_less_than_that_of_the_line(self):
        lines = [("sales", 0, (), ("east", 5), ("raw", 2)), (None, 0, (), ("east", 5), ("row", 0))]
        check = lambda paper: check_paper(self.log, "sales", 0, ("east", 5), paper)
        self.assertTrue(check(lines))
        for index in (1, 2, -1, -2, None, "0", False, (0,), 0.0):
            self.assertFalse(check([lines[0], (*lines[1][:4], ("row", index))]))
        self.assertFalse(check([(*lines[1][:4], ("row", 1)), lines[0], (*lines[1][:4], ("row", 1))]))
        self.assertFalse(check([lines[0], lines[1][:4]]))
        self.assertFalse(check([lines[0], (*lines[1], 0)]))
        self.assertFalse(check([lines[0], list(lines[1])]))

    def test_both_sides_of_a_union(self):
        question = "sales | union (sales | keep amount shop)"
        raw = ("sales", 0, (), ("east", 5), ("raw", 2))
        first = [raw, (None, 0, (0,), ("east", 5), ("row", 0)), (None, 0, (), ("east", 5), ("one", 1))]
        second = [raw, (None, 0, (1, 0), ("east", 5), ("row", 0)), (None, 0, (1,), (5, "east"), ("from", 1)),
                  (None, 0, (), ("east", 5), ("other", 2))]
        for paper, wrong in ((first, ("other", 1)), (second, ("one", 2))):
            self.assertTrue(check_paper(self.log, question, 0, ("east", 5), paper))
            self.assertFalse(check_paper(self.log, question, 0, ("east", 5), [*paper[:-1], (*paper[-1][:4], wrong)]))

    def test_odd_values(self):
        paper = paper_for(self.log, "sales | keep shop", 0, ("east",))
        for odd in [*ODD_VALUES, 1, "paper"]:
            self.assertIs(check_paper(self.log, "sales | keep shop", 0, ("east",), odd), False)
            for at in range(len(paper)):
                others = [*paper[:at], odd, *paper[at + 1:]]
                self.assertIs(check_paper(self.log, "sales | keep shop", 0, ("east",), others), False)
                for item in range(5):
                    if paper[at][item] != odd:
                        line = (*paper[at][:item], odd, *paper[at][item + 1:])
                        self.assertIs(check_paper(self.log, "sales | keep shop", 0, ("east",), [*paper[:at], line, *paper[at + 1:]]), False)

    def test_random_papers(self):
        chance = random.Random(3)
        accepted = refused = 0
        for seed in range(300):
            log = LogMaker(seed).grow(12)
            moment = chance.choice([None, len(log), chance.randrange(2, len(log))])
            question = show(ValidCodes(seed, log.tables(moment)).code_of(3))
            day = chance.choice([0, 1, 1])
            judge = Judge(log, question, day, moment)
            rows = scratch_answer(log, question, day, moment).rows
            for row in rows[:3]:
                paper = paper_for(log, question, day, row, moment)
                self.assertTrue(judge.accepts(row, paper))
                self.assertEqual(len(set(line[:4] for line in paper)), len(paper))
                self.assertTrue(check_paper(log, question, day, row, paper, moment))
                for _ in range(40):
                    other = copy.copy(paper)
                    at = chance.choice([len(paper) - 1, chance.randrange(len(paper))])
                    other[at] = changed(chance, other[at])
                    if chance.random() < 0.2:
                        other.insert(0, other[0])
                    before = copy.deepcopy(other)
                    verdict = judge.accepts(row, other)
                    self.assertEqual(check_paper(log, question, day, row, other, moment), verdict, (question, row, other))
                    self.assertEqual(other, before)
                    accepted, refused = accepted + verdict, refused + (not verdict)
        self.assertGreater(accepted, 20)
        self.assertGreater(refused, 1000)


if __name__ == "__main__":
    unittest.main()
