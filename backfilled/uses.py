"""The partitions that a question needs, directly or through others."""


def uses_of(log, plan, day, moment):
    """Those that a plan needs on a day at a moment, ordered by day, then as their tables in the log."""
    return in_order(log, log.links_at(moment).needs_first(plan.needs_on(day), {}, {}), moment)


def in_order(log, parts, moment):
    """Partitions, ordered by day, then as their tables in the log at a moment."""
    places = {table: at for at, table in enumerate(log.tables(moment))}
    return [part for _, _, part in sorted([(part[1], places[part[0]], part) for part in parts])]
