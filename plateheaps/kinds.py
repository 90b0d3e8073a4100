"""What all files ask of values of any kind."""


def is_number(value):
    # To Python True and False are integers; here they are none.
    return isinstance(value, int) and not isinstance(value, bool)


def are_numbers(value, many):
    """Tell whether a value is a tuple of so many integers."""
    if not isinstance(value, tuple) or len(value) != many:
        return False
    return all([is_number(part) for part in value])


def copied(value):
    """Return a value with new lists and dicts in the place of its own, at any depth."""
    if isinstance(value, list):
        return [copied(part) for part in value]
    if isinstance(value, tuple):
        return tuple([copied(part) for part in value])
    if isinstance(value, dict):
        return {key: copied(value[key]) for key in value}
    return value


def added_up(pairs):
    """Return the dict from the first parts of the pairs to the sums of their second parts."""
    sums = {}
    for key, weight in pairs:
        sums[key] = sums.get(key, 0) + weight
    return sums
