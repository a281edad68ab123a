"""The examples of the document: each block in examples.txt is run by itself."""

import pathlib
import unittest

from backfilled.errors import BackfilledError

BLOCKS = (pathlib.Path(__file__).resolve().parent / "examples.txt").read_text().split("\n\n")


def told(source, names):
    """What an example shows: a value, an error with its fields, or nothing."""
    try:
        code = compile(source, "example", "eval")
    except SyntaxError:
        exec(source, names)
        return None
    try:
        return repr(eval(code, names))
    except BackfilledError as error:
        fields = ", ".join(f"{name}={value!r}" for name, value in vars(error).items())
        return f"raises {type(error).__name__}({fields})"


class ExamplesTest(unittest.TestCase):
    def test_examples(self):
        for block in BLOCKS:
            names = {}
            for example in block.strip().removeprefix(">>> ").split("\n>>> "):
                source, *wanted = example.split("\n")
                with self.subTest(source=source):
                    shown = told(source, names)
                    if wanted or shown != "None":
                        self.assertEqual(shown, wanted[0] if wanted else None)


if __name__ == "__main__":
    unittest.main()
