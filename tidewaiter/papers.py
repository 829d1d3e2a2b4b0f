"""Papers of a no: made rows, and a ring of them that points round."""

from tidewaiter.checks import is_number, is_one_of, is_whole
from tidewaiter.errors import BadPaper
from tidewaiter.laying import bounds
from tidewaiter.rules import MOST, PAIR_RULES, SINGLE_RULES, heard_begins, late_waits


def meaning(web, rows):
    """The list of what the rows make: ("most", x, y, amount) or ("until", end, x, amount)."""
    told = bounds(web)
    lates = {fact[1]: fact for fact in late_waits(web)}
    heard = heard_begins(web)
    facts = []
    for at, row in enumerate(rows):
        fact = None
        if isinstance(row, tuple) and len(row) > 1 and isinstance(row[0], str):
            fact = told_fact(told, row) or late_fact(lates, row) or made_fact(heard, facts, row)
        if fact is None:
            raise BadPaper(at)
        facts.append(fact)
    return facts


def told_fact(told, row):
    """The bound that a told row has, None where it is no such row."""
    if row[0] != "told" or not is_number(row[-1]):
        return None
    if not all([isinstance(name, str) for name in row[:-1]]) or row[1:] not in told:
        return None
    return (MOST,) + row[1:]


def late_fact(lates, row):
    """The wait that a late row makes, None where it is no such row."""
    if row[0] != "late" or len(row) != 2 or not is_one_of(row[1], lates):
        return None
    return lates[row[1]]


def made_fact(heard, facts, row):
    """What a row makes by a rule of facts further ahead, None where it is no such row."""
    word = row[0]
    if not all([is_whole(place, 0, len(facts) - 1) for place in row[1:]]):
        return None
    sources = [facts[place] for place in row[1:]]
    if word in PAIR_RULES and len(sources) == 2:
        pair_rule = PAIR_RULES[word]
        return pair_rule(sources[0], sources[1])
    if word in SINGLE_RULES and len(sources) == 1:
        single_rule = SINGLE_RULES[word]
        return single_rule(heard, sources[0])
    return None


def paper_fits(web, paper):
    """Whether a paper shows that a web is not steered."""
    if not isinstance(paper, tuple) or len(paper) != 2 or not isinstance(paper[0], list):
        return False
    try:
        facts = meaning(web, paper[0])
    except BadPaper:
        return False
    return is_ring(web, facts, paper[1])


def is_ring(web, facts, ring):
    """Whether a list of places is a ring: its facts lie below nought and point round."""
    if not isinstance(ring, list) or len(ring) == 0:
        return False
    if not all([is_whole(place, 0, len(facts) - 1) and facts[place][3] < 0 for place in ring]):
        return False
    heard = heard_begins(web)
    arrows = [arrow(heard, facts[place]) for place in ring]
    # The arrow ahead of the first one is the last one.
    return all([arrows[at - 1][1] == arrows[at][0] for at in range(len(arrows))])


def arrow(heard, fact):
    """The pair of bases (x, y) of which a fact below nought says: x must come behind y."""
    if fact[0] == MOST:
        return (fact[1], fact[2])
    return (fact[2], heard[fact[1]][0])
