"""Exact fractions: tuples (top, bottom) in lowest terms, the bottom from 1 on."""


def common_divisor(x, y):
    """The greatest common divisor of two whole numbers from 0 on, one of them above 0."""
    while y != 0:
        rest = x % y
        x = y
        y = rest
    return x


def ratio(top, bottom):
    """The fraction top / bottom; bottom is above 0."""
    shared = common_divisor(abs(top), bottom)
    return (top // shared, bottom // shared)


def plus(x, y):
    return ratio(x[0] * y[1] + y[0] * x[1], x[1] * y[1])


def minus(x, y):
    return ratio(x[0] * y[1] - y[0] * x[1], x[1] * y[1])


def times(x, y):
    return ratio(x[0] * y[0], x[1] * y[1])


def over(x, y):
    """x / y; y is above 0, as the difference of two q by rising q always is."""
    return ratio(x[0] * y[1], x[1] * y[0])


def less(x, y):
    return x[0] * y[1] < y[0] * x[1]


def lesser(x, y):
    return x if less(x, y) else y


def greater(x, y):
    return y if less(x, y) else x


def text_bytes(x):
    """The bytes of the fraction's text, as whole numbers."""
    top = x[0]
    bottom = x[1]
    return [ord(sign) for sign in f"{top}/{bottom}"]


def counted_bytes(x):
    """The bytes of the fraction's text with how many they are ahead of them."""
    signs = text_bytes(x)
    return [len(signs)] + signs
