"""Reading formulas and rooms by tokens."""

from pointtally.errors import NotText
from pointtally.forms import MOST_LETTERS, form_plus, form_sum, form_times
from pointtally.formulas import MOST_DIVISOR

LETTERS = "abcdefghijklmnopqrstuvwxyz"
DIGITS = "0123456789"
BARRED = (
    "all", "any", "not", "some", "divides", "and", "or", "true", "false", "for", "count", "where",
)
COMPARISONS = ("<=", ">=", "<", ">", "=")
LONGEST_NAME = 12
LONGEST_NUMBER = 40


def _end_of(text, start):
    """Return where the token that begins at start ends."""
    end = start + 1
    if text[start] in LETTERS:
        while end < len(text) and (text[end] in LETTERS or text[end] in DIGITS):
            end += 1
    elif text[start] in DIGITS:
        while end < len(text) and text[end] in DIGITS:
            end += 1
    elif text[start:end + 1] in ("<=", ">="):
        end += 1
    return end


def tokens_of(text):
    """Return the pairs (token, place) of a text, and behind them ("", length of the text)."""
    tokens = []
    at = 0
    while at < len(text):
        if text[at] == " ":
            at += 1
        else:
            end = _end_of(text, at)
            tokens.append((text[at:end], at))
            at = end
    tokens.append(("", len(text)))
    return tokens


def is_name(word):
    """Tell whether a token may be a name."""
    return word != "" and word[0] in LETTERS and len(word) <= LONGEST_NAME and word not in BARRED


class Reader:
    """Goes through the tokens of a text; names are those in force where it stands."""

    def __init__(self, text, names):
        self.tokens = tokens_of(text)
        self.at = 0
        self.names = names

    def token(self):
        """Return the token that comes next, "" at the end."""
        return self.tokens[self.at][0]

    def fail(self):
        """Raise NotText: nothing readable goes on with the next token."""
        raise NotText(self.tokens[self.at][1])

    def skip(self, token):
        """Tell whether the next token is this one, and go behind it if so."""
        if self.token() != token:
            return False
        self.at += 1
        return True

    def need(self, token):
        """Go behind this token."""
        if not self.skip(token):
            self.fail()

    def new_name(self):
        """Read a name that is not in force yet."""
        word = self.token()
        if not is_name(word) or word in self.names:
            self.fail()
        self.at += 1
        return word

    def new_names(self, most):
        """Read new names with commas between them, at most so many, and put them in force."""
        self.names = (*self.names, self.new_name())
        many = 1
        while many < most and self.skip(","):
            self.names = (*self.names, self.new_name())
            many += 1
        return many

    def is_number_next(self):
        """Tell whether the next token is a number that is not too long."""
        word = self.token()
        return word != "" and word[0] in DIGITS and len(word) <= LONGEST_NUMBER

    def part(self):
        """Read a part of a form; return (number, entry it belongs to)."""
        number = 1
        if self.is_number_next():
            number = int(self.token())
            self.at += 1
            # Without a name in force nothing readable goes on behind "*".
            if len(self.names) == 0 or not self.skip("*"):
                if self.token() not in self.names:
                    return (number, 0)
        if self.token() not in self.names:
            self.fail()
        place = self.names.index(self.token()) + 1
        self.at += 1
        return (number, place)

    def form(self):
        """Read a form over the names in force."""
        entries = [0] * (len(self.names) + 1)
        sign = self.token()
        if sign in ("+", "-"):
            self.at += 1
        while True:
            number, place = self.part()
            entries[place] += -number if sign == "-" else number
            sign = self.token()
            if sign not in ("+", "-"):
                return tuple(entries)
            self.at += 1

    def comparison(self):
        """Read two forms with a sign between them."""
        one = self.form()
        sign = self.token()
        if sign not in COMPARISONS:
            self.fail()
        self.at += 1
        other = self.form()
        rise = form_sum(other, form_times(one, -1))
        fall = form_times(rise, -1)
        if sign == "=":
            return ("and", ("row", rise), ("row", fall))
        form = rise if sign in ("<=", "<") else fall
        return ("row", form_plus(form, -1) if sign in ("<", ">") else form)

    def is_divides_next(self):
        """Tell whether a divisibility begins here: no other number stands ahead of "divides"."""
        if not self.is_number_next() or self.tokens[self.at + 1][0] != "divides":
            return False
        return 2 <= int(self.token()) <= MOST_DIVISOR

    def divides(self):
        """Read a divisibility."""
        n = int(self.token())
        self.at += 2
        self.need("(")
        form = self.form()
        self.need(")")
        return ("divides", n, form)

    def listed_formulas(self):
        """Read formulas with commas between them, from the bracket that opens to the one that closes."""
        self.need("(")
        found = []
        if self.skip(")"):
            return found
        found.append(self.formula())
        while self.skip(","):
            found.append(self.formula())
        self.need(")")
        return found

    def bracketed(self):
        """Read a formula between brackets."""
        self.need("(")
        inner = self.formula()
        self.need(")")
        return inner

    def some(self):
        """Read what stands behind "some"."""
        outer = self.names
        self.names = (*outer, self.new_name())
        inner = self.bracketed()
        self.names = outer
        return ("some", inner)

    def unit(self):
        """Read a formula without "and" and "or" between its parts."""
        word = self.token()
        if word == "(":
            return self.bracketed()
        if self.is_divides_next():
            return self.divides()
        if word not in BARRED:
            return self.comparison()
        if word in ("and", "or", "divides", "for", "count", "where"):
            self.fail()
        if word == "some" and len(self.names) >= MOST_LETTERS:
            self.fail()
        self.at += 1
        if word == "not":
            return ("not", self.unit())
        if word == "some":
            return self.some()
        if word in ("all", "any"):
            return ("and" if word == "all" else "or", *self.listed_formulas())
        return ("and",) if word == "true" else ("or",)

    def joined_by(self, word):
        """Read units, or what "and" joins, with a word between them; one alone makes no node."""
        found = []
        while len(found) == 0 or self.skip(word):
            found.append(self.unit() if word == "and" else self.joined_by("and"))
        return found[0] if len(found) == 1 else (word, *found)

    def formula(self):
        """Read a formula."""
        return self.joined_by("or")

    def end(self):
        """Raise NotText unless the text ends here."""
        if self.token() != "":
            self.fail()
