"""The partitions that a question needs, directly or through others."""


def uses_of(log, plan, day, moment):
    """Those that a plan needs on a day at a moment, ordered by day, then as their tables in the log."""
    return in_order(log, log.links_at(moment).needs_first(plan.needs_on(day), {}, {}), moment)


def in_order(log, parts, moment):
    """Partitions, ordered by day, then as their tables in the log at a moment."""
    places = {table: at for at, table in enumerate(log.tables(moment))}
    return [part for _, _, part in sorted([(part[1], places[part[0]], part) for part in parts])]


def changed_between(log, parts, before, after):
    """Those of some partitions, of tables that are there after, whose contents from scratch differ at two moments.

    The one before may be the later one; a table that is not there before has empty contents then.
    """
    past = log.past()
    there = [part for part in parts if log.is_table(part[0], before)]
    old = {part: content for part, content in zip(there, past.contents_at(there, before))}
    new = past.contents_at(parts, after)
    return [part for part, content in zip(parts, new) if (old[part] != content if part in old else len(content) > 0)]
