"""What counts as a number, whatever is handed in."""


def is_whole(value):
    """Tell whether a value is a whole number."""
    return isinstance(value, int) and not isinstance(value, bool)


def is_count(value):
    """Tell whether a value is a whole number of at least 0."""
    return is_whole(value) and value >= 0


def are_whole(values):
    """Tell whether all items of a list are whole numbers."""
    for value in values:
        if not isinstance(value, int) or isinstance(value, bool):
            return False
    return True


def is_rising(numbers):
    """Tell whether each number of a list is greater than the one ahead of it."""
    return all([numbers[at] < numbers[at + 1] for at in range(len(numbers) - 1)])
