"""Going by a table: which moments may be done at a tick, and when they are due.

What was done and heard until then is handed in as ticks, a dict from bases to ticks (start at 0).
"""

from tidewaiter.laying import bases, heard_spans


def may_be_done(web, table, ticks, name, tick):
    """Whether a moment that is not done may be done at a tick."""
    for base in bases(web):
        amount = table.between(name, base)
        if base not in ticks and amount < 0:
            return False
        if base in ticks and tick < ticks[base] - amount:
            return False
    return all([is_waited(table, ticks, span, name, tick) for span in heard_spans(web)])


def is_waited(table, ticks, span, name, tick):
    """Whether a moment need not wait any longer for the end of a heard span."""
    end, begin, first, last = span
    amount = table.until(end, name)
    if end in ticks or amount >= 0:
        return True
    return begin in ticks and tick >= ticks[begin] - amount


def due_tick(table, ticks, name):
    """The tick at which a moment that is not done must be done."""
    return min([ticks[base] + table.between(base, name) for base in ticks])
