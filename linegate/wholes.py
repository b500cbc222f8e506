"""Whole numbers: their bounds and their order."""


def within(value, least, most):
    """Whether value is a whole number from least to most."""
    # True and False are ints to Python, but no whole numbers here.
    return isinstance(value, int) and not isinstance(value, bool) and least <= value <= most


def rising(numbers):
    """Whether each number is greater than the one ahead of it."""
    return all([low < high for low, high in zip(numbers, numbers[1:])])
