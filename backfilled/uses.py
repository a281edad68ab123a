"""The partitions that a question needs, directly or through others."""


def uses_of(log, plan, day, moment):
    """Those that a plan needs on a day at a moment, ordered by day, then as their tables in the log."""
    found = {}
    waiting = plan.needs_on(day)
    while waiting:
        part = waiting.pop()
        if part not in found:
            found[part] = True
            inner = log.plan_on(part[0], part[1], moment)
            if inner is not None:
                waiting.extend(inner.needs_on(part[1]))
    tables = list(log.tables(moment))
    days = sorted({on for _, on in found})
    return [(table, on) for on in days for table in tables if (table, on) in found]
