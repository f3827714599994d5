"""Spans: pairs (first, last) of days, and how many of them share a day."""


def counts_at_begins(spans):
    """The pairs (day, how many spans share it), day by day as spans begin, those of one day one behind another."""
    begins = sorted([first for first, last in spans])
    ends = sorted([last for first, last in spans])
    found = []
    gone = 0
    for begun, day in enumerate(begins, start=1):
        while ends[gone] < day:
            gone += 1
        found.append((day, begun - gone))
    return found


def most_at_once(spans):
    """The greatest number of spans that share one day, 0 without any."""
    return max([0, *[many for day, many in counts_at_begins(spans)]])


def first_day_above(spans, limit):
    """The first day that more spans than so many share, None if there is none."""
    days = [day for day, many in counts_at_begins(spans) if many > limit]
    return days[0] if days else None
