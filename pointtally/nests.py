"""Nests of loops: what they are, and what is wrong with a value."""

from pointtally.errors import NotNest
from pointtally.forms import is_between, is_form, word_of
from pointtally.formulas import formula_breach

MOST_SIZES = 2
MOST_PARTS = 4
MOST_ENDS = 2
MOST_STEP = 6
MOST_TOUCHES = 6
MOST_INDEXES = 2
MOST_LOOPS = 3
MOST_STATEMENTS = 6
LONGEST_ARRAY = 12
LETTERS = "abcdefghijklmnopqrstuvwxyz"
GREATEST_FIRST = 10 ** 6
GREATEST_OF_SIZE = 20
GREATEST_OF_COUNTER = 3


def is_tuple_of(value, low, high):
    """Tell of any value whether it is a tuple of low to high entries."""
    return isinstance(value, tuple) and low <= len(value) <= high


def is_word(value, longest):
    """Tell of any value whether it is a text of 1 to so many of the letters a to z."""
    if not isinstance(value, str) or not 1 <= len(value) <= longest:
        return False
    return all([sign in LETTERS for sign in value])


def _is_loop(value):
    """Tell of any value whether it is a loop, but for its forms and its body."""
    if word_of(value, 5) != "loop":
        return False
    _, lows, highs, step, _ = value
    return is_tuple_of(lows, 1, MOST_ENDS) and is_tuple_of(highs, 1, MOST_ENDS) and is_between(step, 1, MOST_STEP)


def _is_touch(value):
    """Tell of any value whether it is a touch, but for its forms."""
    if word_of(value, 3) not in ("read", "write"):
        return False
    return is_word(value[1], LONGEST_ARRAY) and is_tuple_of(value[2], 1, MOST_INDEXES)


def _is_statement(value):
    """Tell of any value whether it is a part "do", but for its forms."""
    if word_of(value, 2) != "do" or not is_tuple_of(value[1], 0, MOST_TOUCHES):
        return False
    return all([_is_touch(touch) for touch in value[1]])


def _is_small(form, k):
    """Tell whether a form over k sizes and some counters has no entry that is too great."""
    sizes, counters = form[1:k + 1], form[k + 1:]
    if abs(form[0]) > GREATEST_FIRST or any([abs(entry) > GREATEST_OF_SIZE for entry in sizes]):
        return False
    return not any([abs(entry) > GREATEST_OF_COUNTER for entry in counters])


def _are_forms(values, k, m):
    """Tell of any values whether all are small forms over m letters, of which k are sizes."""
    return all([is_form(value, m) and _is_small(value, k) for value in values])


def _is_condition(value, k, m):
    """Tell of any value whether it is a formula over m letters without "some" and with small forms."""
    if formula_breach(value, m) is not None:
        return False
    waiting = [value]
    while waiting:
        node = waiting.pop()
        if node[0] == "some":
            return False
        if node[0] not in ("row", "divides"):
            waiting += list(node[1:])
        elif not _is_small(node[-1], k):
            return False
    return True


class NestReader:
    """Goes through any value in the text's sequence and tells what is wrong first.

    What waits are (is it a body or a part, value, path, letters ahead, loops around).
    """

    def __init__(self, k, body):
        self.k = k
        self.statements = 0
        self.indexes = {}
        self.waiting = [("body", body, (), k, 0)]

    def breach(self):
        """Return (rule, path) of the first place that breaks a rule, None if there is none."""
        while self.waiting:
            kind, value, path, letters, loops = self.waiting.pop()
            if kind == "body":
                if not is_tuple_of(value, 1, MOST_PARTS):
                    return ("body", path)
                # The last one waiting is looked at next, so the parts wait in reverse.
                for i in range(len(value) - 1, -1, -1):
                    self.waiting.append(("part", value[i], (*path, i), letters, loops))
            else:
                rule = self.rule_of(value, letters, loops)
                if rule != "":
                    return (rule, path)
                if value[0] != "do":
                    more = int(value[0] == "loop")
                    self.waiting.append(("body", value[-1], path, letters + more, loops + more))
        return None

    def rule_of(self, value, letters, loops):
        """Return the first rule that a part breaks, but for its body, "" if there is none."""
        if not _is_loop(value) and word_of(value, 3) != "if" and not _is_statement(value):
            return "part"
        if not self.has_forms(value, letters):
            return "form"
        if value[0] == "loop" and loops >= MOST_LOOPS:
            return "deep"
        return self.rule_of_statement(value[1]) if value[0] == "do" else ""

    def has_forms(self, value, letters):
        """Tell whether the forms or the formula of a part are right."""
        if value[0] == "loop":
            return _are_forms((*value[1], *value[2]), self.k, letters)
        if value[0] == "if":
            return _is_condition(value[1], self.k, letters)
        return all([_are_forms(indexes, self.k, letters) for _, _, indexes in value[1]])

    def rule_of_statement(self, touches):
        """Return the first rule that one more statement breaks, "" if there is none."""
        self.statements += 1
        if self.statements > MOST_STATEMENTS:
            return "many"
        for _, array, indexes in touches:
            if self.indexes.setdefault(array, len(indexes)) != len(indexes):
                return "array"
        return ""


def nest_breach(value):
    """Return None if any value is a nest, otherwise (rule, path) of the first place that breaks a rule."""
    if word_of(value, 3) != "nest" or not is_between(value[1], 0, MOST_SIZES):
        return ("nest", ())
    return NestReader(value[1], value[2]).breach()


def check_nest(value):
    """Return any value that is a nest."""
    told = nest_breach(value)
    if told is not None:
        rule, path = told
        raise NotNest(rule, path)
    return value
