"""The partitions that a question needs, directly or through others."""


def needs_first(log, goals, moment):
    """The list of some partitions and of all that they need at a moment, each behind its own needs."""
    found = {}
    # A chain of needs may be longer than calls may stand within one another.
    waiting = goals[::-1]
    while waiting:
        part = waiting[-1]
        plan = log.plan_on(part[0], part[1], moment)
        needs = [] if plan is None or part in found else plan.needs_on(part[1])
        missing = [need for need in needs if need not in found]
        if missing:
            waiting.extend(missing[::-1])
        else:
            found[part] = True
            waiting.pop()
    return list(found)


def uses_of(log, plan, day, moment):
    """Those that a plan needs on a day at a moment, ordered by day, then as their tables in the log."""
    found = {part: True for part in needs_first(log, plan.needs_on(day), moment)}
    tables = list(log.tables(moment))
    days = sorted({on for _, on in found})
    return [(table, on) for on in days for table in tables if (table, on) in found]
