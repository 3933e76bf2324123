"""Letters that others tell, as forms are 0: they are left out of formulas."""

from pointtally.forms import form_sum, form_times, led_form, letter_form
from pointtally.formulas import MOST_DIVISOR
from pointtally.nestforms import difference, equal_rows, unit_forms


def without_entry(form, i):
    """Return a form without its letter number i."""
    return (*form[:i + 1], *form[i + 2:])


def _cleared(form, equal, i):
    """Return a form, a number of times, without letter number i, which a form tells where it is 0."""
    lead = equal[i + 1]
    size = abs(lead)
    return without_entry(form_sum(form_times(form, size), form_times(equal, -form[i + 1] * (lead // size))), i)


def without_letter(formula, equal, i):
    """Return what a formula without "some" says without letter number i, which a form tells where it is 0."""
    word = formula[0]
    if word == "row":
        return ("row", _cleared(formula[1], equal, i))
    if word == "divides":
        if formula[2][i + 1] == 0:
            return ("divides", formula[1], without_entry(formula[2], i))
        return ("divides", formula[1] * abs(equal[i + 1]), _cleared(formula[2], equal, i))
    return (word, *[without_letter(part, equal, i) for part in formula[1:]])


def _greatest_divisor(formula, i):
    """Return the greatest number that is to divide a form with letter number i, 1 if there is none."""
    if formula[0] == "divides":
        return formula[1] if formula[2][i + 1] != 0 else 1
    if formula[0] == "row":
        return 1
    return max([1, *[_greatest_divisor(part, i) for part in formula[1:]]])


class Solved:
    """Letters of which some are told by others, as forms are 0.

    forms are those of all letters over the letters left, which stand in their sequence; equals are the forms that
    are still to be 0, is_free tells for each letter left whether it may be left out, too.
    """

    def __init__(self, n, equals, free):
        self.forms = unit_forms(n)
        self.left = list(range(n))
        waiting = list(equals)
        solved = self.first_solution(waiting, free)
        while solved is not None:
            self.put(solved, n)
            waiting = [form for form in waiting if any(led_form(form, self.forms, n))]
            solved = self.first_solution(waiting, free)
        kept = [0] + [place + 1 for place in self.left]
        self.equals = [tuple([led_form(form, self.forms, n)[i] for i in kept]) for form in waiting]
        self.forms = tuple([tuple([form[i] for i in kept]) for form in self.forms])
        self.is_free = [place in free for place in self.left]

    def first_solution(self, equals, free):
        """Return (place of a free letter, form of it) that the first form with one tells, None if there is none."""
        n = len(self.forms)
        for form in equals:
            told = led_form(form, self.forms, n)
            for place in self.left:
                entry = told[place + 1]
                if place in free and entry in (1, -1):
                    rest = difference(told, form_times(letter_form(place, n), entry))
                    return (place, form_times(rest, -entry))
        return None

    def put(self, solution, n):
        """Put a form in for a letter."""
        place, form = solution
        units = list(unit_forms(n))
        units[place] = form
        self.forms = tuple([led_form(own, units, n) for own in self.forms])
        self.left = [i for i in self.left if i != place]

    def reduced(self, parts):
        """Return (how many letters are left, formulas that hold together) of formulas over the letters left.

        More letters are left out where what divides others tells that they are whole.
        """
        free, equals = list(self.is_free), list(self.equals)
        choice = _letter_to_leave(parts, equals, free)
        while choice is not None:
            _, place, i = choice
            equal = equals.pop(place)
            parts = [without_letter(part, equal, i) for part in parts]
            equals = [_cleared(form, equal, i) for form in equals]
            size = abs(equal[i + 1])
            if size > 1:
                parts.append(("divides", size, without_entry(equal, i)))
            free.pop(i)
            choice = _letter_to_leave(parts, equals, free)
        rows = [row for form in equals if any(form) for row in equal_rows(form)]
        return (len(free), [*parts, *rows])


def _letter_to_leave(parts, equals, free):
    """Return (entry, place of a form, number of a letter) with the least entry by which a letter can be left out."""
    choices = []
    for place, form in enumerate(equals):
        for i, is_free in enumerate(free):
            size = abs(form[i + 1])
            if is_free and 0 < size <= MOST_DIVISOR:
                if size * max([1, *[_greatest_divisor(part, i) for part in parts]]) <= MOST_DIVISOR:
                    choices.append((size, place, i))
    return min(choices) if choices else None
