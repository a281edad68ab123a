"""Rewriting: steps that make of a code another one with the same columns and the same content in every log."""

from backfilled.rewrites import RULES, fits_in, made_by
from backfilled.trees import is_path, outer_first, parts_on, with_part


def apply_step(code, step, tables):
    """The code that any value, if it is a step of a code, makes of it, otherwise None."""
    if not isinstance(step, tuple) or len(step) != 2:
        return None
    rule, path = step
    if not isinstance(rule, str) or rule not in RULES or not is_path(path):
        return None
    parts = parts_on(code, path)
    made = None if parts is None else made_by(rule, parts[-1], tables)
    return None if made is None else with_part(parts, path, made)


def steps_for(code, tables):
    """The list of all steps of a code, in order."""
    return [(rule, path) for path, part in outer_first(code) for rule, _ in fits_in(part, tables)]


def follow(code, steps, tables):
    """The code that a list of steps makes, one after another, or None for any value that is no such list."""
    if not isinstance(steps, list):
        return None
    for step in steps:
        code = apply_step(code, step, tables)
        if code is None:
            return None
    return code


def derivation(code, tables):
    """The list of the first steps, again and again, that are not by split, until there is none."""
    return derived(code, tables)[0]


def tidy(code, tables):
    """The code that the derivation makes."""
    return derived(code, tables)[1]


def derived(code, tables):
    """The derivation of a code and the code that it makes."""
    steps = []
    found = first_fit(code, tables)
    while found is not None:
        rule, path, made = found
        steps.append((rule, path))
        code = with_part(parts_on(code, path), path, made)
        found = first_fit(code, tables)
    return (steps, code)


def first_fit(code, tables):
    """The rule, the path and what is made of the part there, of the first step that is not by split; or None."""
    for path, part in outer_first(code):
        for rule, made in fits_in(part, tables):
            if rule != "split":
                return (rule, path, made)
    return None
