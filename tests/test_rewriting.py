"""Rewriting codes: each rule, where it fits and where it nearly does, and what tidying makes."""

import random
import unittest

from backfilled.checks import columns_of, needs_of
from backfilled.codes import parse, show
from backfilled.contents import Content
from backfilled.errors import BadText
from backfilled.rewriting import apply_step, derivation, follow, steps_for, tidy
from backfilled.truth import evaluate
from tests_support import ODD_VALUES, ValidCodes

TABLES = {
    "t": [("a", "number"), ("b", "number"), ("c", "text")],
    "u": [("c", "text"), ("b", "number"), ("a", "number")],
    "v": [("a", "number"), ("d", "number"), ("e", "text")],
}
ORDER = ["both", "split", "union", "minus", "join", "with", "keep", "keeps", "unused", "once", "renames", "nots"]
# Each rule: a code, and what the rule makes of the whole of it.
FITS = [
    ("both", "t | where a < 1 | where b < 2", "t | where a < 1 and b < 2"),
    ("both", "t | where a < 1 or b = 2 | where b < 2 or a = 3", "t | where [a < 1 or b = 2] and [b < 2 or a = 3]"),
    ("split", "t | where a < 1 and b < 2", "t | where a < 1 | where b < 2"),
    ("split", "t | where a < 1 and b < 2 and a = b", "t | where a < 1 and b < 2 | where a = b"),
    ("split", "t | where a < 1 and [b < 2 and a = b]", "t | where a < 1 | where b < 2 and a = b"),
    ("nots", "t | where not not a < 1", "t | where a < 1"),
    ("nots", "t | where not not not a < 1", "t | where not a < 1"),
    ("nots", "t | where not not [a < 1 and b < 1]", "t | where a < 1 and b < 1"),
    ("union", "t | union u | where a < 1", "t | where a < 1 | union (u | where a < 1)"),
    ("minus", "t | minus u | where a < 1", "t | where a < 1 | minus u"),
    ("join", "t | join v | where a < 1 and c = 'x'", "t | where a < 1 and c = 'x' | join v"),
    ("join", "t | join v | where today < 1", "t | where today < 1 | join v"),
    ("with", "t | with n = a + 1 | where b < 1", "t | where b < 1 | with n = a + 1"),
    ("keep", "t | keep b a | where a < b", "t | where a < b | keep b a"),
    ("keeps", "t | keep a b | keep b", "t | keep b"),
    ("keeps", "t | keep a b | keep a b", "t | keep a b"),
    ("unused", "t | with n = a + 1 | keep b a", "t | keep b a"),
    ("once", "t | union t", "t"),
    ("once", "t | where a < 1 | union (t | where a < 1)", "t | where a < 1"),
    ("renames", "t | rename a n | rename n m", "t | rename a m"),
    ("renames", "t | rename a n | rename n a", "t"),
]
MISSES = [
    ("both", "t | where a < 1"), ("both", "t | where a < 1 | keep a"), ("both", "t | where a < 1 | keep a | where a < 2"),
    ("split", "t | where a < 1 or b < 2"), ("split", "t | where not [a < 1 and b < 2]"), ("split", "t | where a < 1 | where b < 2"),
    ("nots", "t | where not a < 1"), ("nots", "t | where not not a < 1 and b < 1"), ("nots", "t | where a < 1 or not not b < 1"),
    ("nots", "t | where not [a < 1 or not not b < 1]"),
    ("union", "t | union u | keep a"), ("union", "t | minus u | where a < 1"), ("union", "t | where a < 1 | union u"),
    ("minus", "t | union u | where a < 1"), ("minus", "t | where a < 1 | minus u"),
    ("join", "t | join v | where d < 1"), ("join", "t | join v | where a < 1 or e = 'x'"), ("join", "t | join v | where a < d"),
    ("join", "t | join v | where not not [a < 1 and d * 2 < 3]"), ("join", "t | join v | keep a"),
    ("with", "t | with n = a + 1 | where n < 1"), ("with", "t | with n = a + 1 | where b < 1 or not 2 * n < b"),
    ("with", "t | with n = 1 | keep n"), ("keep", "t | keep a | keep a"), ("keep", "t | where a < 1 | keep a"),
    ("keeps", "t | keep a | where a < 1 | keep a"), ("keeps", "t | keep a | rename a n"),
    ("unused", "t | with n = a + 1 | keep b n"), ("unused", "t | with n = a + 1 | where a < 1 | keep b"),
    ("unused", "t | with n = a + 1 | rename n m"),
    ("once", "t | union u"), ("once", "t | union t - 1"), ("once", "t | minus t"), ("once", "t | join t"),
    ("once", "t | where a < 1 | union (t | where a <= 1)"), ("once", "t | union (t | where a < 1)"),
    ("renames", "t | rename a n | rename b m"), ("renames", "t | rename a n"), ("renames", "t | rename a n | keep n"),
    ("renames", "t | rename a n | keep n | rename n m"),
]


def naive_at(code, path):
    for step in path:
        code = code[1 + step]
    return code


def naive_paths(code):
    """The paths of a code, a part ahead of its own parts."""
    inner = {"table": 0, "last": 0, "join": 2, "union": 2, "minus": 2}.get(code[0], 1)
    return [(), *[(at, *path) for at in range(inner) for path in naive_paths(code[1 + at])]]


def content_of(code, seed):
    """What a code computes on a day from random rows."""
    chance = random.Random(seed)
    rows = {}

    def read(table, day):
        if (table, day) not in rows:
            made = [tuple(chance.choice([0, 1, 2, 5]) if kind == "number" else chance.choice(["", "x", "east"])
                          for _, kind in TABLES[table]) for _ in range(chance.randrange(6))]
            rows[(table, day)] = Content(TABLES[table], made)
        return rows[(table, day)]

    for table in TABLES:
        for day in range(4):
            read(table, day)
    return evaluate(code, 3, TABLES, read)


class RuleTest(unittest.TestCase):
    def test_each_rule_where_it_fits(self):
        for rule, before, after in FITS:
            with self.subTest(before=before):
                code = parse(before)
                self.assertEqual(apply_step(code, (rule, ()), TABLES), parse(after))
                self.assertIn((rule, ()), steps_for(code, TABLES))
                self.assertEqual(columns_of(parse(after), TABLES), columns_of(code, TABLES))

    def test_each_rule_where_it_nearly_fits(self):
        for rule, text in MISSES:
            with self.subTest(text=text, rule=rule):
                code = parse(text)
                columns_of(code, TABLES)
                self.assertIsNone(apply_step(code, (rule, ()), TABLES))
                self.assertNotIn((rule, ()), steps_for(code, TABLES))

    def test_within_codes(self):
        around = [
            ("({}) | keep a b c | minus t", (0, 0)), ("t | join ({})", (1,)), ("u | union ({} | keep c b a)", (1, 0)),
            ("t | minus (t | where a < 7 | union ({} | keep a b c))", (1, 1, 0)), ("({}) | group a: n = count", (0,)),
            ("({}) | with new = 1 | where new = 1", (0, 0)),
        ]
        for rule, before, after in FITS:
            for frame, path in around:
                if set(name for name, _ in columns_of(parse(before), TABLES)) != set("abc"):
                    continue
                code = parse(frame.replace("{}", before))
                columns_of(code, TABLES)
                self.assertEqual(naive_at(code, path), parse(before))
                self.assertEqual(apply_step(code, (rule, path), TABLES), parse(frame.replace("{}", after)))
                self.assertIn((rule, path), steps_for(code, TABLES))

    def test_a_join_whose_first_code_makes_the_columns(self):
        code = parse("t | keep a c | with d = 2 | join (v | keep a) | where d < 3 and c = 'x'")
        self.assertIsNotNone(apply_step(code, ("join", ()), TABLES))
        code = parse("t | keep a c | join (v | rename d b) | where b < 3")
        self.assertIsNone(apply_step(code, ("join", ()), TABLES))

    def test_union_with_columns_in_another_order(self):
        code = parse("t | union u | where a < 2 and c = 'x'")
        for seed in range(20):
            self.assertEqual(content_of(apply_step(code, ("union", ()), TABLES), seed), content_of(code, seed))


class StepTest(unittest.TestCase):
    def setUp(self):
        self.code = parse("t | where a < 1 and b < 2 | where not not a = b | union (u | keep a b c | keep c b a) | where a < 3")

    def test_order(self):
        self.assertEqual(steps_for(code=self.code, tables=TABLES), [
            ("union", ()), ("both", (0, 0)), ("nots", (0, 0)), ("split", (0, 0, 0)), ("keeps", (0, 1)),
        ])
        self.assertEqual(steps_for(parse("t"), TABLES), [])
        both = parse("t | where a < 1 | where not not [a < 2 and b < 3]")
        self.assertEqual(steps_for(both, TABLES), [("both", ()), ("nots", ())])
        both = parse("t | where a < 1 | where a < 2 and b < 3")
        self.assertEqual(steps_for(both, TABLES), [("both", ()), ("split", ())])
        with_both = parse("t | with n = 1 | where a < 1 and b < 2")
        self.assertEqual(steps_for(with_both, TABLES), [("split", ()), ("with", ())])
        sides = parse("t | keep a | keep a | union (t | keep a | keep a)")
        self.assertEqual(steps_for(sides, TABLES), [("once", ()), ("keeps", (0,)), ("keeps", (1,))])

    def test_against_all_rules_at_all_paths(self):
        fits = 0
        for seed in range(300):
            codes = RewritableCodes(seed, TABLES)
            code = codes.code_of(codes.random.randrange(1, 7))
            steps = [(rule, path) for path in naive_paths(code) for rule in ORDER if apply_step(code, (rule, path), TABLES)]
            self.assertEqual(steps_for(code, TABLES), steps)
            fits += len(steps)
        self.assertGreater(fits, 300)

    def test_values_that_are_no_steps(self):
        for odd in [*ODD_VALUES, "both", ("union",), ["union", ()], ("union", (), ()), ("both", ()), ("keeps", ()), ("Union", ()),
                    ("", ()), (None, ()), ((), "union"), ("union", []), ("union", None), ("union", 0), ("union", (0,)),
                    ("keeps", (0, 1, 0)), ("keeps", (0, 2)), ("keeps", (0, -1)), ("keeps", (-1, 1)), ("keeps", (False, True)),
                    ("keeps", (0, True)), ("keeps", (0.0, 1)), ("keeps", (0, "1")), ("keeps", (0, None)), ("keeps", (0, [])),
                    ("keeps", ((0, 1),)), ("nots", (0, 0, 0, 0, 0, 0)), ("split", (0, 0)), ([], ()), ({}, ()), ("keeps", {0: 1})]:
            self.assertIsNone(apply_step(self.code, odd, TABLES), odd)
            self.assertIsNone(follow(self.code, [odd], TABLES), odd)
        self.assertIsNotNone(apply_step(code=self.code, step=("keeps", (0, 1)), tables=TABLES))

    def test_follow(self):
        self.assertEqual(follow(self.code, [], TABLES), self.code)
        made = follow(code=self.code, steps=[("union", ()), ("both", (0,)), ("keep", (1,))], tables=TABLES)
        self.assertEqual(show(made), (
            "t | where a < 1 and b < 2 | where not not a = b and a < 3 | union (u | keep a b c | where a < 3 | keep c b a)"
        ))
        self.assertIsNone(follow(self.code, [("union", ()), ("union", ())], TABLES))
        self.assertIsNone(follow(self.code, [("union", ()), ("both", (0,)), None], TABLES))
        for odd in [odd for odd in [*ODD_VALUES, "", (("union", ()),), 1] if odd != []]:
            self.assertIsNone(follow(self.code, odd, TABLES))

    def test_arguments_do_not_change(self):
        tables = {name: list(columns) for name, columns in TABLES.items()}
        steps = [("union", ()), ("both", (0,))]
        follow(self.code, steps, tables)
        steps_for(self.code, tables).clear()
        derivation(self.code, tables).clear()
        tidy(self.code, tables)
        self.assertEqual((tables, steps), (TABLES, [("union", ()), ("both", (0,))]))
        self.assertEqual(len(derivation(self.code, tables)), len(derivation(self.code, TABLES)))


class RewritableCodes(ValidCodes):
    """Random codes in which rules often fit."""

    def step_of(self, code, kinds, steps):
        pick = self.random.randrange(12)
        names = list(kinds)
        if pick < 4:
            return ("where", code, self.condition_of(kinds, 2))
        if pick == 4:
            return ("where", code, ("not", ("not", self.condition_of(kinds, 1))))
        if pick == 5:
            return ("union", code, code)
        if pick == 6:
            return ("keep", code, tuple(self.random.sample(names, self.random.randrange(1, len(names) + 1))))
        if pick == 7:
            return ("rename", code, self.random.choice(names), self.new_name(kinds))
        if pick == 8 and len(kinds) < 10:
            made = ("with", code, self.new_name(kinds), self.term_of("number", kinds, 1))
            return ("keep", made, tuple(self.random.sample(names, self.random.randrange(1, len(names) + 1))))
        return super().step_of(code, kinds, steps)


class TidyTest(unittest.TestCase):
    def tidies(self, before, after, *steps):
        code = parse(before)
        self.assertEqual(derivation(code, TABLES), list(steps))
        self.assertEqual(show(tidy(code, TABLES)), after)

    def test_derivations(self):
        self.tidies("t", "t")
        self.tidies("t | where a < 1 and b < 2", "t | where a < 1 and b < 2")
        self.tidies("t | where a < 1 | where b < 2", "t | where a < 1 and b < 2", ("both", ()))
        self.tidies("t | where a < 1 | where not not b < 2", "t | where a < 1 and not not b < 2", ("both", ()))
        self.tidies("t | where not not not not a < 1", "t | where a < 1", ("nots", ()), ("nots", ()))
        self.tidies(
            "t | with x = 1 | with y = 2 | where a < 1 | keep b", "t | where a < 1 | keep b",
            ("with", (0,)), ("unused", ()), ("with", (0,)), ("unused", ()),
        )
        self.tidies(
            "t | union t | where a < 1", "t | where a < 1", ("union", ()), ("once", ()),
        )
        self.tidies(
            "t | keep a b | keep b a | where a < b", "t | where a < b | keep b a",
            ("keep", ()), ("keep", (0,)), ("keeps", ()),
        )
        self.tidies("t | rename a x | rename x y | rename y a", "t", ("renames", ()), ("renames", ()))
        self.tidies(
            "t | minus u | where a < 1 | join (v | keep a) | where b < 2", "t | where a < 1 and b < 2 | minus u | join (v | keep a)",
            ("join", ()), ("both", (0,)), ("minus", (0,)),
        )

    def test_by_the_words_of_the_document(self):
        long = 0
        for seed in range(300):
            codes = RewritableCodes(seed, TABLES)
            code = codes.code_of(codes.random.randrange(1, 7))
            steps, made = [], code
            while True:
                free = [step for step in steps_for(made, TABLES) if step[0] != "split"]
                if not free:
                    break
                steps.append(free[0])
                made = apply_step(made, free[0], TABLES)
            self.assertEqual(derivation(code=code, tables=TABLES), steps)
            self.assertEqual(tidy(code=code, tables=TABLES), made)
            self.assertEqual(follow(code, steps, TABLES), made)
            long += len(steps) > 3
        self.assertGreater(long, 20)

    def test_columns_and_contents_stay(self):
        used = {}
        for seed in range(250):
            codes = RewritableCodes(seed, TABLES)
            code = codes.code_of(codes.random.randrange(1, 7))
            for step in steps_for(code, TABLES):
                made = apply_step(code, step, TABLES)
                self.assertEqual(columns_of(made, TABLES), columns_of(code, TABLES))
                self.assertLessEqual(set(needs_of(made, 3)), set(needs_of(code, 3)))
                for world in range(3):
                    self.assertEqual(content_of(made, world), content_of(code, world))
                used[step[0]] = used.get(step[0], 0) + 1
            made = tidy(code, TABLES)
            self.assertEqual(content_of(made, seed), content_of(code, seed))
        self.assertEqual(sorted(used), sorted(ORDER))

    def test_any_walk_keeps_columns_and_contents(self):
        for seed in range(80):
            codes = RewritableCodes(seed, TABLES)
            code = made = codes.code_of(codes.random.randrange(2, 6))
            for _ in range(12):
                steps = steps_for(made, TABLES)
                if not steps:
                    break
                made = apply_step(made, codes.random.choice(steps), TABLES)
            self.assertEqual(columns_of(made, TABLES), columns_of(code, TABLES))
            self.assertEqual(content_of(made, seed), content_of(code, seed))


class LongCodesTest(unittest.TestCase):
    """Codes that are too long, or too deep, to be written."""

    def setUp(self):
        condition = " and ".join(f"a < {at}" for at in range(30))
        unions = " | union ".join(["t"] + [f"t - {at}" for at in range(1, 9)])
        self.code = parse(f"{unions} | where {condition}")

    def test_a_code_that_gets_too_long(self):
        made = tidy(self.code, TABLES)
        self.assertGreater(len(show(made)), 600)
        with self.assertRaises(BadText):
            parse(show(made))
        self.assertEqual(columns_of(made, TABLES), TABLES["t"])
        self.assertEqual(needs_of(made, 3), needs_of(self.code, 3))
        self.assertEqual(steps_for(made, TABLES), [("split", path) for rule, path in steps_for(made, TABLES)])
        self.assertEqual(len(derivation(self.code, TABLES)), 8)
        for world in range(5):
            self.assertEqual(content_of(made, world), content_of(self.code, world))
        again = made
        for _ in range(20):
            again = apply_step(again, [step for step in steps_for(again, TABLES) if step[0] == "split"][-1], TABLES)
        self.assertEqual(content_of(again, 1), content_of(self.code, 1))
        self.assertEqual(columns_of(again, TABLES), TABLES["t"])

    def test_many_conditions(self):
        code = parse("t" + " | where a < 1" * 42)
        made = tidy(code, TABLES)
        self.assertEqual((made[0], made[1], len(derivation(code, TABLES))), ("where", ("table", "t", 0), 41))
        back = made
        for _ in range(41):
            step = [step for step in steps_for(back, TABLES) if step[0] == "split"][0]
            back = apply_step(back, step, TABLES)
        self.assertEqual(back, code)

    def test_deep_conditions(self):
        code = parse("t | where " + "not " * 140 + "a < 1")
        self.assertEqual(show(tidy(code, TABLES)), "t | where a < 1")
        code = parse("t | union t | where " + "a + " * 140 + "1 < 2")
        self.assertEqual(tidy(code, TABLES)[0], "where")

    def test_deep_brackets(self):
        code = parse("(" * 20 + "t" + " | keep a b c)" * 20 + " | where a < 1")
        self.assertEqual(show(tidy(code, TABLES)), "t | where a < 1 | keep a b c")


if __name__ == "__main__":
    unittest.main()
