"""Plans: what is to be done and waited for, one behind the other or beside, and the webs that they are laid as."""

from tidewaiter.checks import LETTERS, is_whole
from tidewaiter.errors import BadPlan
from tidewaiter.settle import steered
from tidewaiter.web import BY, START, Web, are_lengths, is_lateness

MOST_TICKS = 1000
MOST_PLANS = 4
MOST_DEPTH = 6
MOST_PARTS = 12
MOST_READINGS = 64


def need_plan(plan):
    """Refuses what is no plan."""
    # What is counted must first be known to be well made.
    if not is_made(plan, MOST_DEPTH) or part_count(plan) > MOST_PARTS or reading_count(plan) > MOST_READINGS:
        raise BadPlan()


def is_made(plan, depth):
    """Whether a thing is made as a plan is, and at most so deep."""
    if depth == 0 or not isinstance(plan, tuple) or len(plan) == 0 or not isinstance(plan[0], str):
        return False
    word = plan[0]
    if word == "ours":
        return len(plan) == 3 and is_whole(plan[1], 0, MOST_TICKS) and is_whole(plan[2], plan[1], MOST_TICKS)
    if word == "weather":
        return len(plan) == 4 and are_lengths(plan[1], plan[2]) and is_lateness(plan[3])
    if word == "within":
        return len(plan) == 3 and is_whole(plan[1], 0, MOST_TICKS) and is_made(plan[2], depth - 1)
    if word not in ("then", "beside", "either") or len(plan) != 2 or not isinstance(plan[1], list):
        return False
    return 1 <= len(plan[1]) <= MOST_PLANS and all([is_made(part, depth - 1) for part in plan[1]])


def inner_plans(plan):
    """The list of the plans that a plan is made of; none where it is an ours or a weather."""
    if plan[0] in ("ours", "weather"):
        return []
    return [plan[2]] if plan[0] == "within" else list(plan[1])


def part_count(plan):
    """How many ours and weathers a plan has."""
    if plan[0] in ("ours", "weather"):
        return 1
    return sum([part_count(part) for part in inner_plans(plan)])


def reading_count(plan):
    """How many readings a plan has."""
    counts = [reading_count(part) for part in inner_plans(plan)]
    if plan[0] == "either":
        return sum(counts)
    product = 1
    for count in counts:
        product *= count
    return product


def readings(plan):
    """The plans that one gets by taking one plan for each either, the eithers further left changing last."""
    need_plan(plan)
    return [reading(plan, at) for at in range(reading_count(plan))]


def reading(plan, at):
    """The reading at a place, from 0, with lists of its own."""
    word = plan[0]
    if word in ("ours", "weather"):
        return plan
    if word == "within":
        return (word, plan[1], reading(plan[2], at))
    if word == "either":
        return taken(plan[1], at)
    parts = []
    # The last plan changes first, so its place is what is left over.
    for part in reversed(list(plan[1])):
        at, own = divmod(at, reading_count(part))
        parts.append(reading(part, own))
    return (word, parts[::-1])


def taken(plans, at):
    """The reading at a place among those of the first plan, the second one and so on."""
    for part in plans[:-1]:
        count = reading_count(part)
        if at < count:
            return reading(part, at)
        at -= count
    return reading(plans[-1], at)


def has_either(plan):
    """Whether there is an either in a plan."""
    return plan[0] == "either" or any([has_either(part) for part in inner_plans(plan)])


def laid(plan, *, by=BY):
    """The web of a plan without either."""
    need_plan(plan)
    if has_either(plan):
        raise BadPlan()
    web, end = lay(Web(by), plan, START)
    return web


def lay(web, plan, begin):
    """The web with a plan more that begins at a point, and the moment at which it ends."""
    word = plan[0]
    if word == "ours":
        name = fresh_name(web)
        return (web.with_moment(name).with_tie(begin, name, least=plan[1], most=plan[2]), name)
    if word == "weather":
        name = fresh_name(web)
        return gather(web.with_span(name, begin, plan[1], plan[2], late=plan[3]), [name])
    if word == "within":
        web, end = lay(web, plan[2], begin)
        return (web.with_tie(begin, end, most=plan[1]), end)
    if word == "then":
        return lay_then(web, plan[1], begin)
    return lay_beside(web, plan[1], begin)


def lay_then(web, plans, begin):
    """The web with these plans more, one behind the other, and the moment at which the last one ends."""
    end = begin
    for part in plans:
        web, end = lay(web, part, end)
    return (web, end)


def lay_beside(web, plans, begin):
    """The web with these plans more, all from one point on, and the moment at which all have ended."""
    ends = []
    for part in plans:
        web, end = lay(web, part, begin)
        ends.append(end)
    return (web, ends[0]) if len(ends) == 1 else gather(web, ends)


def gather(web, points):
    """The web with a moment more that comes behind all of these points, and that moment."""
    name = fresh_name(web)
    web = web.with_moment(name)
    for point in points:
        web = web.with_tie(point, name, least=0)
    return (web, name)


def fresh_name(web):
    """The next letter that names no point."""
    # start has no letter.
    return LETTERS[len(web) - 1]


def chosen(plan, *, by=BY):
    """The first reading whose web is steered; None where there is none."""
    for way in readings(plan):
        if steered(laid(way, by=by)):
            return way
    return None
