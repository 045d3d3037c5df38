"""Numbers that are added up under keys."""


def added(one, two):
    """The sums of two tuples of numbers, part by part."""
    return tuple([first + second for first, second in zip(one, two)])


def totals(parts):
    """The list of the keys of pairs (key, numbers) as they first come, each with the sums of its numbers behind it."""
    sums = {}
    for key, numbers in parts:
        sums[key] = added(sums[key], numbers) if key in sums else numbers
    return [key + sums[key] for key in sums]
