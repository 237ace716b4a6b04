"""Rules of who may open: which sets of hands fit, written, read and turned about."""

from fewopen.errors import NoRule

HANDS = "abcdefghij"
# Hands somewhat beyond the ten are shown, but never read.
LETTERS = "abcdefghijklmnopqrstuvwxyz"
MOST_RULES = 10
MOST_HANDS = 20
MOST_SOMES = 5
HEADS = (
    "all (", "one (", "2 of (", "3 of (", "4 of (",
    "5 of (", "6 of (", "7 of (", "8 of (", "9 of (",
)


def is_hand(rule):
    return rule[0] == "hand"


def fits(rule, hands):
    if is_hand(rule):
        return rule[1] in hands
    return len([inner for inner in rule[2] if fits(inner, hands)]) >= rule[1]


# One for each time that a hand is written, in that order.
def hands_written(rule):
    if is_hand(rule):
        return [rule[1]]
    hands = []
    for inner in rule[2]:
        hands.extend(hands_written(inner))
    return hands


def hands_in(rule):
    return sorted(set(hands_written(rule)))


def turned_rule(rule):
    if is_hand(rule):
        return ("hand", rule[1])
    rules = tuple([turned_rule(inner) for inner in rule[2]])
    return ("some", len(rules) - rule[1] + 1, rules)


def head_of(k, many):
    if k == many:
        return "all ("
    if k == 1:
        return "one ("
    return f"{k} of ("


def show_rule(rule):
    if is_hand(rule):
        return LETTERS[rule[1]]
    head = head_of(rule[1], len(rule[2]))
    inside = ", ".join([show_rule(inner) for inner in rule[2]])
    return f"{head}{inside})"


def read_rule(text):
    if not isinstance(text, str):
        raise NoRule("a rule is written as a text")
    found = rule_at(text, 0, 0)
    if found[1] != len(text):
        raise NoRule("something stands behind the rule")
    if len(hands_written(found[0])) > MOST_HANDS:
        raise NoRule("more than twenty hands are written")
    return found[0]


# This and the two below tell what begins at a place of the text, and the place
# behind it. depth is how many somes lie around; a text of brackets alone is
# refused by it long before Python's own bound on calls.
def rule_at(text, at, depth):
    for head in HEADS:
        if text.startswith(head, at):
            return some_at(text, at, head, depth + 1)
    letter = text[at:at + 1]
    # Each text has the empty one in it, so the text's end is asked for by itself.
    if letter == "" or letter not in HANDS:
        raise NoRule("neither a hand nor a some begins where one should")
    return (("hand", HANDS.index(letter)), at + 1)


def some_at(text, at, head, depth):
    if depth > MOST_SOMES:
        raise NoRule("more than five somes lie in one another")
    found = rules_at(text, at + len(head), depth)
    rules = found[0]
    if len(rules) > MOST_RULES:
        raise NoRule("a some has more than ten rules")
    # Only the head that the some would be written with is one, so `1 of (a, b)` is none.
    for k in range(1, len(rules) + 1):
        if head_of(k, len(rules)) == head:
            return (("some", k, rules), found[1])
    raise NoRule("a some of so many rules is not written so")


def rules_at(text, at, depth):
    found = rule_at(text, at, depth)
    rules = [found[0]]
    while text.startswith(", ", found[1]):
        found = rule_at(text, found[1] + 2, depth)
        rules.append(found[0])
    if not text.startswith(")", found[1]):
        raise NoRule("a some is not closed")
    return (tuple(rules), found[1] + 1)
