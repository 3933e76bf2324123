"""The judge: whether a value is a paper of a saying."""

from pointtally.claims import saying_breach
from pointtally.verdicts import (
    check_alike, check_count, check_empty, check_finite, check_parting, check_point, check_sum, check_tells,
    check_within,
)

CHECKS = {
    "point": check_point,
    "empty": check_empty,
    "finite": check_finite,
    "count": check_count,
    "sum": check_sum,
    "tells": check_tells,
    "within": check_within,
    "alike": check_alike,
    "parting": check_parting,
}


def judge(saying, value):
    """Tell of any two values whether the first is a saying and the second one a paper that shows it."""
    if saying_breach(saying) is not None:
        return False
    word, claim = saying
    check = CHECKS[claim[0]]
    return check(word == "is", claim, value)
