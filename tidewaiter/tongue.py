"""The tongue of plans: how they are written, and read again."""

from tidewaiter.errors import BadPlan, BadText
from tidewaiter.figures import read_bound, written
from tidewaiter.plans import MOST_DEPTH, inner_plans, need_plan


def write_plan(plan):
    """The text of a plan."""
    parts = inner_plans(plan)
    if len(parts) == 0:
        return " ".join([written(thing) for thing in plan])
    inside = ", ".join([write_plan(part) for part in parts])
    head = f"within {plan[1]}" if plan[0] == "within" else plan[0]
    return f"{head}({inside})"


def read_plan(text):
    """The plan that is written so."""
    plan = parsed(text, MOST_DEPTH)
    try:
        need_plan(plan)
    except BadPlan:
        raise BadText(0) from None
    # What was taken for a plan must be written in just this way.
    if write_plan(plan) != text:
        raise BadText(0)
    return plan


def parsed(text, depth):
    """What a text would be as a plan at most so deep, not checked to be one."""
    head, bracket, rest = text.partition("(")
    word, *things = head.split(" ")
    numbers = [read_bound(thing) for thing in things]
    if bracket == "":
        return (word, *numbers)
    if depth == 0:
        raise BadText(0)
    parts = [parsed(part, depth - 1) for part in split_plans(rest.removesuffix(")"))]
    if word == "within":
        return (word, *numbers, *parts)
    return (word, *numbers, parts)


def split_plans(text):
    """The texts between the commas that stand in no brackets."""
    found = []
    held = []
    depth = 0
    for piece in text.split(", "):
        held.append(piece)
        depth += piece.count("(") - piece.count(")")
        if depth == 0:
            found.append(", ".join(held))
            held = []
    if len(held) > 0:
        raise BadText(0)
    return found
