"""The judge: whether a value is a paper of a saying."""

from pointtally.claims import saying_breach
from pointtally.verdicts import is_shown


def judge(saying, value):
    """Tell of any two values whether the first is a saying and the second one a paper that shows it."""
    return saying_breach(saying) is None and is_shown(saying, value)
