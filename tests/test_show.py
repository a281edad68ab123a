"""Writing codes: [7], and [3] (n), its first sentence."""

import unittest

from backfilled.codes import parse, parse_and_show, show
from backfilled.errors import BadText
from backfilled.plain import plain_code
from tests_support import Codes, loose


class ShowTest(unittest.TestCase):
    def shows(self, *pairs):
        for text, shown in pairs:
            with self.subTest(text=text):
                self.assertEqual(show(parse(text)), shown)
                self.assertEqual(parse(shown), parse(text))

    def same(self, *texts):
        self.shows(*[(text, text) for text in texts])

    def test_document(self):
        self.shows(("( sales last 3 ) | group shop : total=sum amount,many=count",
                    "sales last 3 | group shop: total = sum amount, many = count"))

    def test_sources_and_steps(self):
        self.same(
            "sales", "sales - 4", "sales last 30", "t | keep a", "t | keep a b c", "t | rename a b", "t | join u",
            "t | union u - 4", "t | minus u last 2", "t | join (u | keep a)", "t | group: x = count",
            "t | group a b: x = sum c, y = least d, z = greatest e, n = count", "t | with x = 1 | where x = 1 | keep x",
        )
        self.shows(
            ("((t))", "t"), ("(t|keep a)|keep a", "t | keep a | keep a"), ("t|join(u-4)", "t | join u - 4"),
            ("t|join((u))", "t | join u"), ("t|union((u|keep a))|minus(u last 2)", "t | union (u | keep a) | minus u last 2"),
            ("t|join(u|join(v|keep a))", "t | join (u | join (v | keep a))"), ("t|group:x=count,y=count",
                                                                                "t | group: x = count, y = count"),
        )

    def test_terms(self):
        start = "t | with x = "
        self.same(*[start + text for text in [
            "5", "-5", "'a b'", "''", "today", "a", "a + b - c", "a - (b - c)", "a - (b + c)", "a * b * c", "a * (b * c)",
            "a + b * c", "(a + b) * c", "a * (b + c)", "a - -4", "a + -4", "-4 - a", "-4 * -5", "(a - -4) * -5",
            "a - b * c", "a * b - c * d", "a - (b - (c - d))", "(a + b) * (c - d)",
        ]])
        self.shows(
            (start + "- 5", start + "-5"), (start + "-0", start + "0"), (start + "(a+b)+c", start + "a + b + c"),
            (start + "a+(b*c)", start + "a + b * c"), (start + "(a*b)+c", start + "a * b + c"),
            (start + "(a*b)*c", start + "a * b * c"), (start + "(5)", start + "5"), (start + "a--4", start + "a - -4"),
        )

    def test_conditions(self):
        start = "t | where "
        self.same(*[start + text for text in [
            "a = 1", "a < 1", "a <= 1", "not a = 1", "not not a = 1", "not [a = 1 and b = 2]", "not [a = 1 or b = 2]",
            "a = 1 and b = 2 or c = 3", "a = 1 or b = 2 and c = 3", "[a = 1 or b = 2] and c = 3",
            "a = 1 and [b = 2 and c = 3]", "a = 1 or [b = 2 or c = 3]", "a = 1 and [b = 2 or c = 3]",
            "not a = 1 and not b = 2", "a + b = c * d", "a - -4 <= -4",
        ]])
        self.shows(
            (start + "[a=1]", start + "a = 1"), (start + "not[a=1]", start + "not a = 1"),
            (start + "[a=1 and b=2]or c=3", start + "a = 1 and b = 2 or c = 3"),
            (start + "[a=1 or b=2]or c=3", start + "a = 1 or b = 2 or c = 3"),
            (start + "[not a=1]and b=2", start + "not a = 1 and b = 2"), (start + "(a)=(1)", start + "a = 1"),
            (start + "not[not[a=1]]", start + "not not a = 1"), (start + "a=1 or[b=2 and c=3]",
                                                                  start + "a = 1 or b = 2 and c = 3"),
        )

    def test_read_back_equal_and_no_bracket_too_many(self):
        codes = Codes(21)
        brackets = 0
        for _ in range(1500):
            tree = codes.code(4)
            text = show(tree)
            if len(text) <= 600:
                self.assertEqual(parse(text), tree)
                self.assertEqual(show(parse(text)), text)
                for start, end in pairs_of(text):
                    brackets += 1
                    self.assertNotEqual(parsed(text[:start] + " " + text[start + 1:end] + " " + text[end + 1:]), tree)
        self.assertGreater(brackets, 500)

    def test_spaces_between_tokens(self):
        codes = Codes(22)
        for _ in range(500):
            text = show(codes.code(3))
            bare = "".join("x" if k % 2 else piece for k, piece in enumerate(text.split("'")))
            self.assertEqual(text, text.strip())
            for wrong in ("  ", "( ", "[ ", " )", " ]", " ,", " :"):
                self.assertNotIn(wrong, bare)
            self.assertNotRegex(bare, r"[,:|=<+*](?! |=)|(?<! )[|=<+*](?<!<=)|\S[(\[](?<![(\[][(\[])")

    def test_texts_that_need_not_be_written_again(self):
        plain = 0
        for seed in range(600):
            codes = Codes(seed)
            tree = codes.code(codes.random.randrange(5))
            text = show(tree)
            others = [text.replace(*pair) for pair in [(" ", "  "), (" = ", "="), (": ", " : "), (", ", " ,"), ("' ", "'")]]
            for one in [text, loose(tree, codes.random), " " + text, text + " ", *others]:
                try:
                    code = parse(one)
                except BadText:
                    continue
                self.assertEqual(parse_and_show(one), (code, show(code)))
                found = plain_code(one)
                plain += found is not None
                self.assertIn(found, (None, code))
        self.assertGreater(plain, 500)

    def test_deep_trees(self):
        condition = ("=", ("column", "a"), 1)
        for _ in range(2000):
            condition = ("and", ("=", ("column", "a"), 1), condition)
        text = show(("where", ("table", "t", 0), condition))
        self.assertEqual(text.count("["), 1999)
        code = ("table", "t", 0)
        for _ in range(2000):
            code = ("union", code, ("table", "t", 0))
        self.assertEqual(show(code), "t" + " | union t" * 2000)


def parsed(text):
    try:
        return parse(text)
    except BadText:
        return None


def pairs_of(text):
    """The pairs of brackets in a text."""
    pairs, waiting = [], []
    for at, sign in enumerate(text):
        if sign in "([":
            waiting.append(at)
        elif sign in ")]":
            pairs.append((waiting.pop(), at))
    return pairs


if __name__ == "__main__":
    unittest.main()
