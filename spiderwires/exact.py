"""Exact numbers (a, b, c, d, k) and scalars (k, j).

A number stands for (a + b w + c w ** 2 + d w ** 3) / 2 ** k, where w is the
eighth root of one with w ** 4 = -1.  The first four items are its
coefficients.
"""

from spiderwires.errors import BadNumber, BadScalar
from spiderwires.limits import MAX_POWER

MAX_HALVINGS = 4000
ZERO = (0, 0, 0, 0, 0)


def is_whole(value):
    """Tell whether a value is an integer: True and False are not."""
    return isinstance(value, int) and not isinstance(value, bool)


def is_number(value):
    """Tell whether any value is a number."""
    if not isinstance(value, tuple) or len(value) != 5:
        return False
    if not all([is_whole(item) for item in value]):
        return False
    a, b, c, d, k = value
    if k < 0 or k > MAX_HALVINGS:
        return False
    return k == 0 or ((a | b | c | d) & 1) == 1


def is_scalar(value):
    """Tell whether any value is a scalar; None is the scalar zero."""
    if value is None:
        return True
    if not isinstance(value, tuple) or len(value) != 2:
        return False
    k, j = value
    if not is_whole(k) or not is_whole(j):
        return False
    return -MAX_POWER <= k <= MAX_POWER and 0 <= j <= 7


def need_number(value, name):
    """Raise BadNumber if the value of the parameter name is not a number."""
    if not is_number(value):
        raise BadNumber(f"{name} is not a number")


def lowest(coefficients, k):
    """Return the number with four coefficients over 2 ** k."""
    a, b, c, d = coefficients
    union = a | b | c | d
    if union == 0:
        return ZERO
    # The lowest bit of the union tells how often all four can be halved.
    halvings = min(k, (union & -union).bit_length() - 1)
    return (a >> halvings, b >> halvings, c >> halvings, d >> halvings, k - halvings)


def add(x, y):
    """Return the sum of two numbers."""
    need_number(x, "x")
    need_number(y, "y")
    k = max(x[4], y[4])
    up = k - x[4]
    also_up = k - y[4]
    return lowest([(x[i] << up) + (y[i] << also_up) for i in range(4)], k)


def multiply(x, y):
    """Return the product of two numbers."""
    need_number(x, "x")
    need_number(y, "y")
    parts = [0, 0, 0, 0]
    for i in range(4):
        for j in range(4):
            if i + j < 4:
                parts[i + j] += x[i] * y[j]
            else:
                # w ** 4 is -1, so the power wraps around with a minus.
                parts[i + j - 4] -= x[i] * y[j]
    return lowest(parts, x[4] + y[4])


def conjugated(x):
    """Return the complex conjugate of a number."""
    need_number(x, "x")
    a, b, c, d, k = x
    # The conjugate of w ** n is w ** (8 - n), which is -w ** (4 - n).
    return (a, -d, -c, -b, k)


def scalar_value(scalar):
    """Return the number for which a scalar stands."""
    if not is_scalar(scalar):
        raise BadScalar("scalar is neither None nor a pair (k, j) within its bounds")
    if scalar is None:
        return ZERO
    k, j = scalar
    # Halving k rounds down, so one factor sqrt(2) = w - w ** 3 is left if k is odd.
    doublings = k >> 1
    a, b, c, d = (0, 1, 0, -1) if k & 1 else (1, 0, 0, 0)
    for _ in range(j):
        a, b, c, d = -d, a, b, c
    if doublings < 0:
        return (a, b, c, d, -doublings)
    return (a << doublings, b << doublings, c << doublings, d << doublings, 0)
