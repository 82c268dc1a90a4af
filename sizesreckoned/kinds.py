"""What integers, numbers, sizes and lots are, and sums of numbers."""

from math import gcd


def is_whole(value, low):
    """Tell whether the value is an integer from low on."""
    # For isinstance a bool would be an int, too.
    return type(value) is int and value >= low


def is_whole_up_to(value, low, high):
    """Tell whether the value is an integer from low to high."""
    return is_whole(value, low) and value <= high


def is_pair(value):
    """Tell whether the value is a tuple of two."""
    return isinstance(value, tuple) and len(value) == 2


def is_number(value):
    """Tell whether the value is a number (over, under) in least terms."""
    if not is_pair(value):
        return False
    over, under = value
    return type(over) is int and type(under) is int and over >= 0 and under > 0 and gcd(over, under) == 1


def is_size(value):
    """Tell whether the value is a number above 0."""
    return is_number(value) and value[0] > 0


def is_size_up_to(value, box):
    """Tell whether the value is a size no greater than the box."""
    return is_size(value) and value[0] <= box * value[1]


def is_lot(value):
    """Tell whether the value is a lot, of whatever sizes."""
    if not isinstance(value, tuple):
        return False
    for part in value:
        if not is_pair(part) or not is_size(part[0]) or not is_whole(part[1], 1):
            return False
    return len({size for size, _ in value}) == len(value)


def is_lot_up_to(value, box):
    """Tell whether the value is a lot of sizes no greater than the box."""
    return is_lot(value) and all([over <= box * under for (over, under), _ in value])


def lowest(over, under):
    """Return over / under as a number."""
    shared = gcd(over, under)
    return (over // shared, under // shared)


def added(parts):
    """Return the sum of the parts (over, under) as a number."""
    if not parts:
        return (0, 1)
    if len(parts) == 1:
        return lowest(parts[0][0], parts[0][1])
    # Both halves apart keep the integers short for as long as can be.
    middle = len(parts) // 2
    over, under = added(parts[:middle])
    more, below = added(parts[middle:])
    return lowest(over * below + more * under, under * below)


def reduced(numbers):
    """Return the integers, not all 0, divided by what divides all of them."""
    shared = 0
    for number in numbers:
        shared = gcd(shared, number)
    return [number // shared for number in numbers]
