"""The names and parameters of the document's interface, each defined where the interface lists it."""

import importlib
import inspect
import unittest

FUNCTIONS = {
    "values": ["is_name(value)", "is_value(value)", "is_day(value)", "is_columns(value)", "is_row(value, columns)"],
    "codes": ["parse(text)", "show(code)"],
    "checks": ["columns_of(code, tables)", "needs_of(code, day)"],
    "truth": ["evaluate(code, day, tables, read)", "from_scratch(log, table, day, moment=None)",
              "scratch_answer(log, question, day, moment=None)"],
    "papers": ["paper_for(log, question, day, row, moment=None)", "check_paper(log, question, day, row, paper, moment=None)"],
    "differences": ["explanation(log, question, day, first, last)"],
    "journals": ["check_number(index, text)", "journal(store)", "recover(text)"],
    "certificates": ["certificate(log, answer)", "check_certificate(log, question, day, moment, rows, value)"],
    "histories": ["history(log, question, day)", "history_of_row(log, question, day, row)"],
    "rewriting": ["apply_step(code, step, tables)", "steps_for(code, tables)", "follow(code, steps, tables)",
                  "derivation(code, tables)", "tidy(code, tables)"],
    "deltas": ["pass_through(code, day, tables, old, changes)"],
    "replicas": ["exchange(one, other)", "rebased(store, log)"],
}
CLASSES = {
    "contents.Content": ["__init__(columns, rows)", "__contains__", "__len__", "__eq__", "__sub__", "__add__", "__call__(name)"],
    "logs.Log": [
        "__init__()", "add_table(name, columns, keys=1)", "put(table, day, row)", "delete(table, day, key)",
        "set_code(table, text, day=0)", "__getitem__", "__len__", "__eq__", "entries()", "tables(moment=None)",
        "is_raw(table, moment=None)", "columns_at(table, moment=None)", "raw(table, day, moment=None)",
        "code_at(table, day, moment=None)", "code_moment(table, day, moment=None)", "last_day(moment=None)",
        "copy(moment=None)",
    ],
    "records.Record": ["__eq__"],
    "stores.Store": [
        "__init__(log)", "records()", "state_at(table, day, moment=None)", "content_at(table, day, moment=None)",
        "compute(table, day, moment=None)", "due(moment=None)", "is_done(moment=None)", "work(moment=None)",
        "backfill(table, first, last)", "claim(runner)", "claims()", "crash(runner)",
        "ask(question, day, moment=None, name=None)", "names()", "again(name)", "forget(name)", "needed()", "drop()",
        "trial(table, text, day=0)",
    ],
    "runners.Claim": ["run()", "finish()", "give_up()"],
    "answers.Answer": ["__contains__", "__len__", "__eq__", "uses()", "codes()"],
    "differences.Difference": ["__init__(before, after)", "__len__", "__eq__", "turned()"],
    "trials.Trial": ["ask(question, day)", "compare(table, day)", "promote()", "end()", "__enter__", "__exit__"],
    "monitors.Monitor": ["__init__(store)", "late()", "waiting()", "concerned(table, day)", "changed(first, last)"],
    "console.Console": ["__init__()", "execute(command)"],
    "histories.Watches": ["__init__(store)", "add(name, question, day)", "remove(name)", "names()", "news(name)"],
    "lives.Live": ["__init__(log, question, day)", "forward()", "backward()", "go_to(moment)", "changed()", "looked_at()"],
    "replicas.Replica": [
        "__init__(site)", "log_now()", "clock()", "add_table(name, columns, keys=1)", "put(table, day, row)",
        "delete(table, day, key)", "set_code(table, text, day=0)", "stamped()", "skipped()", "merge(entries)",
        "moment_for(clock, site)",
    ],
    "budgets.Budget": ["__init__(store, most)", "use(question, day, moment=None)", "order()", "trim()"],
    "rules.Rules": [
        "__init__(log)", "add(name, question)", "remove(name)", "names()", "broken(name, moment=None)", "since(name)", "blame(name)",
    ],
}
PROPERTIES = {
    "contents.Content": ["columns", "rows"], "stores.Store": ["log", "made"], "differences.Difference": ["come", "gone"],
    "console.Console": ["store"],
}
GENERATORS = ["work", "backfill"]


def shown(function, skip=0):
    """The parameters of a function as they are listed."""
    told = inspect.signature(function)
    return str(told.replace(parameters=list(told.parameters.values())[skip:]))


class InterfaceTest(unittest.TestCase):
    def test_functions(self):
        for module, listed in FUNCTIONS.items():
            for line in listed:
                function = getattr(importlib.import_module(f"backfilled.{module}"), line.split("(")[0])
                self.assertEqual(function.__module__, f"backfilled.{module}")
                self.assertEqual(function.__name__ + shown(function), line)

    def test_classes(self):
        for place, listed in CLASSES.items():
            module, name = place.split(".")
            owner = getattr(importlib.import_module(f"backfilled.{module}"), name)
            self.assertEqual(owner.__module__, f"backfilled.{module}")
            for line in listed:
                self.assertIn(line.split("(")[0], vars(owner), place)
                method = vars(owner)[line.split("(")[0]]
                if "(" in line:
                    self.assertEqual(method.__name__ + shown(method, 1), line, place)
                self.assertEqual(inspect.isgeneratorfunction(method), line.split("(")[0] in GENERATORS)

    def test_properties(self):
        for place, listed in PROPERTIES.items():
            module, name = place.split(".")
            owner = getattr(importlib.import_module(f"backfilled.{module}"), name)
            for word in listed:
                self.assertIsInstance(vars(owner)[word], property)


if __name__ == "__main__":
    unittest.main()
