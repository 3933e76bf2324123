"""Formulas: what they are, and how they are written otherwise."""

from pointtally.errors import NotFormula
from pointtally.forms import MOST_LETTERS, form_plus, form_times, is_between, is_form, letter_form, lowered, put_in

MOST_DIVISOR = 12
TRUE = ("and",)
FALSE = ("or",)


def _has_shape(node, m):
    """Tell whether a node has one of the six words and as many entries as the word asks."""
    if not isinstance(node, tuple) or len(node) == 0 or not isinstance(node[0], str):
        return False
    word = node[0]
    if word in ("and", "or"):
        return True
    if word in ("row", "not"):
        return len(node) == 2
    if word == "some":
        return len(node) == 2 and m < MOST_LETTERS
    return word == "divides" and len(node) == 3


def own_breach(node, m):
    """Return None if a node is right but for formulas in it, otherwise the rest of the path to what is wrong."""
    if not _has_shape(node, m):
        return ()
    if node[0] == "row" and not is_form(node[1], m):
        return (1,)
    if node[0] == "divides":
        if not is_between(node[1], 2, MOST_DIVISOR):
            return (1,)
        if not is_form(node[2], m):
            return (2,)
    return None


def formula_breach(value, m):
    """Return None if any value is a formula over m letters, otherwise the path of the first wrong node."""
    waiting = [(value, m, ())]
    while waiting:
        node, letters, path = waiting.pop()
        rest = own_breach(node, letters)
        if rest is not None:
            return path + rest
        if node[0] not in ("row", "divides"):
            inner = letters + 1 if node[0] == "some" else letters
            # The last one waiting is looked at next, so the entries wait in reverse.
            for place in range(len(node) - 1, 0, -1):
                waiting.append((node[place], inner, (*path, place)))
    return None


def need_formula(value, m):
    """Raise NotFormula unless value is a formula over m letters."""
    path = formula_breach(value, m)
    if path is not None:
        raise NotFormula(path)


def formula_put_in(formula, forms, n):
    """Return the formula over n letters that formula becomes with forms for its letters."""
    word = formula[0]
    if word == "row":
        return ("row", put_in(formula[1], forms, n))
    if word == "divides":
        return ("divides", formula[1], put_in(formula[2], forms, n))
    if word == "some":
        wider = [(*form, 0) for form in forms]
        return ("some", formula_put_in(formula[1], (*wider, letter_form(n, n + 1)), n + 1))
    return (word, *[formula_put_in(inner, forms, n) for inner in formula[1:]])


def lettered(formula, m, places, n):
    """Return the formula over n letters in which letter number i is letter number places[i]."""
    return formula_put_in(formula, tuple([letter_form(places[i], n) for i in range(m)]), n)


def denied(formula):
    """Return the formula of the opposite meaning, with "not" ahead of "some" alone."""
    word = formula[0]
    if word == "row":
        return ("row", form_plus(form_times(formula[1], -1), -1))
    if word == "divides":
        n = formula[1]
        return ("or", *[("divides", n, form_plus(formula[2], -rest)) for rest in range(1, n)])
    if word == "not":
        return plain(formula[1])
    if word == "some":
        return ("not", ("some", plain(formula[1])))
    other = "or" if word == "and" else "and"
    return (other, *[denied(inner) for inner in formula[1:]])


def plain(formula):
    """Return the formula of the same meaning, with "not" ahead of "some" alone."""
    word = formula[0]
    if word in ("row", "divides"):
        return formula
    if word == "not":
        return denied(formula[1])
    return (word, *[plain(inner) for inner in formula[1:]])


def lowered_formula(formula):
    """Return the formula of the same meaning with lowered rows and small entries in divisibilities."""
    word = formula[0]
    if word == "row":
        return _settled_node(lowered(formula[1]), formula[1][0] >= 0, ("row",))
    if word == "divides":
        n = formula[1]
        rest = tuple([entry % n for entry in formula[2]])
        return _settled_node(rest, rest[0] == 0, ("divides", n))
    return (word, *[lowered_formula(inner) for inner in formula[1:]])


def _settled_node(form, holds, front):
    """Return the node of front and form, or what it says if the form has no letters."""
    if any(form[1:]):
        return (*front, form)
    return TRUE if holds else FALSE


def sizes(formula):
    """Return how many rows and divisibilities there are, how deep "some" goes, and the greatest entry."""
    word = formula[0]
    if word in ("row", "divides"):
        return (1, 0, max([abs(entry) for entry in formula[-1]]))
    many = deep = great = 0
    for inner in formula[1:]:
        inner_many, inner_deep, inner_great = sizes(inner)
        many += inner_many
        deep = max(deep, inner_deep)
        great = max(great, inner_great)
    if word == "some":
        deep += 1
    return (many, deep, great)
