"""What integers, names, numbers, sizes and lots are, how they are written, and sums of numbers."""

from math import gcd

LONGEST_NAME = 8


def is_whole(value, low):
    """Tell whether the value is an integer from low on."""
    # For isinstance a bool would be an int, too.
    return type(value) is int and value >= low


def is_whole_up_to(value, low, high):
    """Tell whether the value is an integer from low to high."""
    return is_whole(value, low) and value <= high


def is_name(value):
    """Tell whether the value is a name."""
    if not isinstance(value, str) or len(value) > LONGEST_NAME:
        return False
    return value.isascii() and value.isalpha() and value.islower()


def is_pair(value):
    """Tell whether the value is a tuple of two."""
    return isinstance(value, tuple) and len(value) == 2


def is_number(value):
    """Tell whether the value is a number (over, under) in least terms."""
    if not is_pair(value):
        return False
    over, under = value
    return type(over) is int and type(under) is int and over >= 0 and under > 0 and gcd(over, under) == 1


def is_size(value):
    """Tell whether the value is a number above 0."""
    return is_number(value) and value[0] > 0


def is_size_up_to(value, box):
    """Tell whether the value is a size no greater than the box."""
    return is_size(value) and value[0] <= box * value[1]


def is_lot(value):
    """Tell whether the value is a lot, of whatever sizes."""
    if not isinstance(value, tuple):
        return False
    for part in value:
        if not is_pair(part) or not is_size(part[0]) or not is_whole(part[1], 1):
            return False
    return len({size for size, _ in value}) == len(value)


def is_lot_up_to(value, box):
    """Tell whether the value is a lot of sizes no greater than the box."""
    return is_lot(value) and all([over <= box * under for (over, under), _ in value])


def written_integer(word):
    """Return the integer that the word writes as Python does, None if it writes none."""
    digits = word.removeprefix("-")
    if not digits.isascii() or not digits.isdigit():
        return None
    if digits.startswith("0") and word != "0":
        return None
    # Digits are taken piece by piece, since int takes only some thousand of them at once.
    padded = "0" * (-len(digits) % 64) + digits
    number = 0
    for at in range(0, len(padded), 64):
        number = number * 10 ** 64 + int(padded[at:at + 64])
    return number if digits == word else -number


def written_size(word):
    """Return the size that the word writes, None if it writes none."""
    over, slash, under = word.partition("/")
    if under == "1":
        return None
    size = (written_integer(over), written_integer(under) if slash == "/" else 1)
    return size if is_size(size) else None


def size_text(size):
    """Return how the size is written."""
    over, under = size
    return f"{over}" if under == 1 else f"{over}/{under}"


def lowest(over, under):
    """Return over / under as a number."""
    shared = gcd(over, under)
    return (over // shared, under // shared)


def added(parts):
    """Return the sum of the parts (over, under) as a number."""
    if not parts:
        return (0, 1)
    if len(parts) == 1:
        return lowest(parts[0][0], parts[0][1])
    # Both halves apart keep the integers short for as long as can be.
    middle = len(parts) // 2
    over, under = added(parts[:middle])
    more, below = added(parts[middle:])
    return lowest(over * below + more * under, under * below)


def reduced(numbers):
    """Return the integers, not all 0, divided by what divides all of them."""
    shared = 0
    for number in numbers:
        shared = gcd(shared, number)
    return [number // shared for number in numbers]
