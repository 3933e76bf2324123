"""A slow second way to tell where a text stops being readable: all derivations of the grammar are tried at once."""

import re

BARRED = ("all any not some divides and or true false for count where").split()


def tokens(text):
    """Return pairs (token, place), the end of the text behind them."""
    found = [(m.group(), m.start()) for m in re.finditer(r"[a-z][a-z0-9]*|[0-9]+|<=|>=|[^ ]", text, re.DOTALL)]
    return found + [("", len(text))]


def is_new(word, names):
    return re.fullmatch(r"[a-z][a-z0-9]{0,11}", word) is not None and word not in BARRED and word not in names


def choices(symbol, names):
    """Return the ways in which a symbol of the grammar can be written, None for one that is read."""
    if symbol == "F":
        return (("D", "F+"),)
    if symbol == "F+":
        return ((), ("or", "D", "F+"))
    if symbol == "D":
        return (("N", "D+"),)
    if symbol == "D+":
        return ((), ("and", "N", "D+"))
    if symbol == "N":
        told = [("not", "N"), ("(", "F", ")"), ("all", "(", "L", ")"), ("any", "(", "L", ")"), ("true",), ("false",),
                ("2..12", "divides", "(", "FORM", ")"), ("FORM", "SIGN", "FORM")]
        return told + [("some", "NEW", "(", "F", ")", "OLD")] if len(names) < 9 else told
    if symbol == "L":
        return ((), ("F", "L+"))
    if symbol == "L+":
        return ((), (",", "F", "L+"))
    if symbol == "FORM":
        return (("PART", "P+"), ("+", "PART", "P+"), ("-", "PART", "P+"))
    if symbol == "P+":
        return ((), ("+", "PART", "P+"), ("-", "PART", "P+"))
    if symbol == "PART":
        return (("NUM",), ("NAME",), ("NUM", "NAME"), ("NUM", "*", "NAME")) if names else (("NUM",),)
    if symbol == "ROOM":
        return tuple((*ahead, *behind, "where", "F") for ahead in ((), ("for", "NEWS3")) for behind in ((), ("count", "NEWS6")))
    if symbol.startswith("NEWS"):
        rest = int(symbol[4:]) - 1
        return (("NEW",), ("NEW", ",", f"NEWS{rest}")) if rest else (("NEW",),)
    return None


def reads(symbol, word, names):
    """Tell whether a symbol that is read may be this token."""
    number = re.fullmatch("[0-9]{1,40}", word) is not None
    if symbol == "2..12":
        return number and 2 <= int(word) <= 12
    if symbol == "NUM":
        return number
    if symbol == "NAME":
        return word in names
    if symbol == "NEW":
        return is_new(word, names)
    if symbol == "SIGN":
        return word in ("<=", ">=", "<", ">", "=")
    return symbol == word


def spread(states):
    """Return all states that come of states without reading; a state is (symbols to come, names in force)."""
    done, waiting = set(), list(states)
    while waiting:
        state = waiting.pop()
        if state not in done:
            done.add(state)
            stack, names = state
            if stack and stack[0] == "OLD":
                waiting.append((stack[1:], names[:-1]))
            elif stack:
                for front in choices(stack[0], names) or ():
                    waiting.append(((*front, *stack[1:]), names))
    return done


def failing_place(start, text, names):
    """Return None for a readable text, otherwise the place that NotText tells."""
    states = {((start,), tuple(names))}
    for word, place in tokens(text):
        states = spread(states)
        if word == "":
            return None if any(stack == () for stack, _ in states) else place
        following = set()
        for stack, now in states:
            if stack and choices(stack[0], now) is None and stack[0] != "OLD" and reads(stack[0], word, now):
                following.add((stack[1:], (*now, word) if stack[0] == "NEW" else now))
        if not following:
            return place
        states = following
    return None
