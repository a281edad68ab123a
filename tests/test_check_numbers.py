"""Check numbers of lines, each against a plain computation sign by sign, as [19] tells it."""

import random
import unittest

from backfilled.checksums import BLOCK, POWERS, WIDTH, numbers_of
from backfilled.journals import check_number, journal, recover
from backfilled.logs import Log
from backfilled.stores import Store

ASCII = "".join(chr(code) for code in range(128))
OTHERS = "\x80\xe9\u20ac\u0665\ud800\uffff\U0001f600\U0010ffff"


def by_signs(index, text):
    """The number of the line, and for each character the number so far times 257, plus its ord, modulo 9999991."""
    number = index
    for sign in text:
        number = (number * 257 + ord(sign)) % 9999991
    return number


class CheckNumbersTest(unittest.TestCase):
    def same(self, index, text):
        self.assertEqual(check_number(index, text), by_signs(index, text), (index, text))

    def test_all_lengths_and_indexes_from_0_on(self):
        chance = random.Random(1)
        for length in range(0, 700):
            text = "".join(chance.choice(ASCII) for _ in range(length))
            for index in (0, 1, length, 127, 257, chance.randrange(10 ** 7)):
                self.same(index, text)
        for index in range(3000):
            self.same(index, "put sales 2 'east',0")

    def test_greatest_and_least_signs(self):
        for length in range(1, 200):
            for sign in "\0\x01 ~\x7f":
                self.same(length, sign * length)

    def test_long_texts(self):
        for length in (1000, 1023, 1024, 1025, 1999, 2000, 5000, 20000):
            self.same(7, ("code t 0 " + ASCII * length)[:length])
            self.same(7, "\x7f" * length)

    def test_other_signs_than_those_of_ascii(self):
        chance = random.Random(2)
        for length in [*range(1, 150), 500, 1000]:
            text = [chance.choice(ASCII) for _ in range(length)]
            for sign in OTHERS:
                for at in (0, length // 2, length - 1):
                    self.same(length, "".join([*text[:at], sign, *text[at + 1:]]))
            self.same(0, "".join(chance.choice(OTHERS) for _ in range(length)))

    def test_great_indexes(self):
        for index in (9999990, 9999991, 9999992, 10 ** 12, 10 ** 40):
            for text in ("a", "record big 0 2 sales", "x" * 64, "x" * 65, "\u20ac"):
                self.same(index, text)
        self.assertEqual(check_number(5, ""), 5)

    def test_blocks_of_lines(self):
        chance = random.Random(3)
        self.assertEqual(list(POWERS), [257 ** power % 9999991 for power in range(WIDTH + 1)])
        for many in range(1, BLOCK + 1):
            for most in (1, 20, WIDTH, WIDTH + 1, 300):
                texts = ["".join(chance.choice(ASCII) for _ in range(chance.randrange(most) + 1)) for _ in range(many)]
                for start in (0, 1, many, 24, 9999990):
                    self.assertEqual(numbers_of(start, texts), [by_signs(start + at, text) for at, text in enumerate(texts)])
        self.assertEqual(numbers_of(3, ["", "a", ""]), [3, by_signs(4, "a"), 5])
        for sign in "\0\x7f":
            self.assertEqual(numbers_of(0, [sign * WIDTH] * BLOCK), [by_signs(at, sign * WIDTH) for at in range(BLOCK)])

    def test_journals_of_short_and_long_lines(self):
        chance = random.Random(4)
        log = Log()
        log.add_table("t", [(name, "number") for name in "abcdefghij"], 10)
        for at in range(200):
            most = chance.choice([1, 5, 40])
            log.put("t", at, tuple(chance.randrange(10 ** most) for _ in range(10)))
        for at in range(10):
            log.set_code("u", " | ".join(["t", *["where a < 5"] * (at * 4)]))
        text = journal(Store(log))
        lines = text.split("\n")
        self.assertEqual((lines[-1], len(lines)), ("", 212))
        for index, line in enumerate(lines[:-1]):
            body, _, number = line.rpartition(" #")
            self.assertEqual(number, f"{by_signs(index, body):07d}")
        self.assertEqual(recover(text)[1], 211)
        for _ in range(300):
            index = chance.randrange(211)
            at = chance.randrange(7)
            line = lines[index]
            wrong = line[:len(line) - 7 + at] + str((int(line[len(line) - 7 + at]) + 1) % 10) + line[len(line) - 6 + at:]
            self.assertEqual(recover("\n".join([*lines[:index], wrong, *lines[index + 1:]]))[1], index)


if __name__ == "__main__":
    unittest.main()
