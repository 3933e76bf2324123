"""What stands around the statements of a nest, as formulas over letters that stand for sizes and counters.

A STATEMENT is (touches, chain): chain a tuple of pairs (path, part), the loops and conditions around it, from the
outermost one on.
"""

from pointtally.forms import form_plus, form_sum, form_times, led_form, letter_form
from pointtally.formulas import formula_put_in


def statements_in(nest):
    """Return the list of the statements of a nest, in the text's sequence."""
    return _statements(nest[2], (), ())


def _statements(body, path, chain):
    """Return the statements of a body at a path with a chain around it."""
    found = []
    for i, part in enumerate(body):
        if part[0] == "do":
            found.append((part[1], chain))
        else:
            found += _statements(part[-1], (*path, i), (*chain, ((*path, i), part)))
    return found


def counters_of(chain):
    """Return how many loops a chain has."""
    return len(loops_of(chain))


def loops_of(chain):
    """Return the paths of the loops of a chain."""
    return [path for path, part in chain if part[0] == "loop"]


def common_loops(one, other):
    """Return how many loops two chains have in common."""
    return len([path for path in loops_of(one) if path in loops_of(other)])


def difference(one, other):
    """Return the form that is one less the other."""
    return form_sum(one, form_times(other, -1))


def equal_rows(form):
    """Return the rows that hold together where a form is 0."""
    return [("row", form), ("row", form_times(form, -1))]


def _loop_parts(part, ahead, counter, n):
    """Return the formulas that hold where a counter is one of a loop; ahead are forms for the letters ahead."""
    _, lows, highs, step, _ = part
    starts = [led_form(low, ahead, n) for low in lows]
    told = [("row", difference(counter, low)) for low in starts]
    told += [("row", difference(led_form(high, ahead, n), counter)) for high in highs]
    if step == 1:
        return told
    steps = [("divides", step, difference(counter, low)) for low in starts]
    if len(starts) == 1 or starts[0] == starts[1]:
        return told + steps[:1]
    above = difference(starts[0], starts[1])
    first = ("and", ("row", above), steps[0])
    return told + [("or", first, ("and", ("row", form_plus(form_times(above, -1), -1)), steps[1]))]


def round_parts(k, chain, forms, n):
    """Return the formulas that hold together at the rounds of a statement.

    forms are over n letters and stand for the sizes and the counters around it.
    """
    told, place = [], k
    for _, part in chain:
        if part[0] == "loop":
            told += _loop_parts(part, forms[:place], forms[place], n)
            place += 1
        else:
            told.append(formula_put_in(part[1], forms[:place], n))
    return told


def unit_forms(n):
    """Return the letters of n letters as forms."""
    return tuple([letter_form(i, n) for i in range(n)])
