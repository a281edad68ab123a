"""The class Record: [10]."""

import unittest

from backfilled.contents import Content
from backfilled.records import Record
from tests_support import ODD_VALUES

COLUMNS = [("n", "number")]


def content(*numbers):
    return Content(COLUMNS, [(number,) for number in numbers])


class RecordTest(unittest.TestCase):
    def setUp(self):
        self.values = ["u", 3, "t | where n < 9", (("t", 3, content(5, 12)),), content(5)]

    def test_attributes(self):
        record = Record(*self.values)
        found = [record.table, record.day, record.code, record.inputs, record.content]
        self.assertEqual(found, self.values)
        self.assertEqual(sorted(vars(record)), ["code", "content", "day", "inputs", "table"])

    def test_by_name(self):
        names = ["table", "day", "code", "inputs", "content"]
        self.assertEqual(Record(**dict(zip(names, self.values))), Record(*self.values))

    def test_equal_if_all_five_are(self):
        record = Record(*self.values)
        again = Record("u", 3, "t | where n < 9", (("t", 3, content(12, 5)),), content(5))
        self.assertEqual(record, again)
        others = ["v", 4, "t | where n < 8", (("t", 3, content(5, 13)),), content(5, 6)]
        for at, other in enumerate(others):
            self.assertNotEqual(record, Record(*self.values[:at], other, *self.values[at + 1:]))
        for inputs in [(), (("t", 2, content(5, 12)),), (("s", 3, content(5, 12)),), self.values[3] * 2]:
            self.assertNotEqual(record, Record(*self.values[:3], inputs, self.values[4]))
        for value in [*ODD_VALUES, tuple(self.values)]:
            self.assertFalse(record == value)


if __name__ == "__main__":
    unittest.main()
