"""A reckoning of its own, by fractions and by going through all, that the tests compare with."""

from fractions import Fraction
from functools import lru_cache
from itertools import product
from random import Random


def parts(text):
    """Return (box, bound, steps) of the text of a rule that is right."""
    lines = [line.split(" ") for line in text.split("\n")]
    return int(lines[0][1]), int(lines[1][1]), [(word, int(n), int(w)) for word, n, w in lines[2:]]


def worth(steps, size):
    """Return the worth of a size, a Fraction, by the last step that it reaches."""
    found = 0
    for word, start, step_worth in steps:
        if size > start or (size == start and word == "from"):
            found = step_worth
    return found


def crumbs(text):
    """Return the worth of the least sizes."""
    return worth(parts(text)[2], Fraction(1, 1000))


def corners(steps, little):
    """Return (size, worth) of the least size of each step, what is beyond by so little."""
    found = []
    for word, start, step_worth in steps:
        size = Fraction(start) if word == "from" else start + little
        if step_worth > 0:
            found.append((size, step_worth))
    return found


def most_of(text, room):
    """Return the most that a lot is reckoned that fills no more than room, a Fraction."""
    steps = parts(text)[2]
    assert crumbs(text) == 0
    part = room - room.numerator // room.denominator
    sizes = corners(steps, (part if part else Fraction(1)) / 200)

    @lru_cache(maxsize=None)
    def within(left):
        return max([0] + [worth_ + within(left - size) for size, worth_ in sizes if size <= left])

    return within(room)


def is_sound(text):
    """Tell whether no lot that fits a box is reckoned more than the bound."""
    box, bound, _ = parts(text)
    return crumbs(text) == 0 and most_of(text, Fraction(box)) <= bound


def most_room(text, size):
    """Return the greatest worth of this one size with which the sound rule stays sound."""
    box, bound, _ = parts(text)
    return min(Fraction(bound - most_of(text, box - many * size), many)
               for many in range(1, int(box / size) + 1))


def halves(box):
    """Return a size of each space of the box."""
    return [Fraction(n, 2) for n in range(1, 2 * box + 1)]


def is_greatest(text):
    """Tell whether no size can be reckoned more by the sound rule."""
    box, _, steps = parts(text)
    return all(most_room(text, size) == worth(steps, size) for size in halves(box))


def fills(lot):
    """Return what a lot fills, as a Fraction."""
    return sum((Fraction(*size) * many for size, many in lot), Fraction(0))


def reckons(text, lot):
    """Return what a lot is reckoned."""
    steps = parts(text)[2]
    return sum(worth(steps, Fraction(*size)) * many for size, many in lot)


def lot_breaks(text, lot):
    """Tell whether the lot fits a box and is reckoned more than the bound."""
    box, bound, _ = parts(text)
    return fills(lot) <= box and reckons(text, lot) > bound


def table_holds(text, table):
    """Tell whether a table holds, written out from the document."""
    box, bound, steps = parts(text)
    if len(table) != 2 * box + 1 or table[-1] > bound or list(table) != sorted(table):
        return False
    for i in range(2 * box + 1):
        for word, start, step_worth in steps:
            j = 2 * start if word == "from" else 2 * start + 1
            k = i + j - 1 if i % 2 == 1 and j % 2 == 1 else i + j
            if k <= 2 * box and table[k] < table[i] + step_worth:
                return False
    return min(table) >= 0


def least_table_that_holds(text):
    """Return the least table that holds but for the bound, step by step and space by space; without crumbs."""
    box, _, steps = parts(text)
    table = [0] * (2 * box + 1)
    for i in range(2 * box + 1):
        table[i] = max(table[max(i - 1, 0)], table[i])
        for word, start, step_worth in steps:
            j = 2 * start if word == "from" else 2 * start + 1
            k = i + j - 1 if i % 2 == 1 and j % 2 == 1 else i + j
            if i < k <= 2 * box:
                table[k] = max(table[k], table[i] + step_worth)
    return tuple(table)


def text_of(box, bound, worths):
    """Return the text with one step for each space from 1 on."""
    lines = [f"box {box}", f"bound {bound}"]
    for place, step_worth in enumerate(worths, 1):
        lines.append(f"{'beyond' if place % 2 else 'from'} {place // 2} {step_worth}")
    return "\n".join(lines)


def shortest(box, bound, worths):
    """Return the text with a step just where the worth changes."""
    lines = text_of(box, bound, worths).split("\n")
    kept = [line for line, last, now in zip(lines[2:], (0, *worths), worths) if last != now]
    return "\n".join(lines[:2] + kept)


def all_worths(box, bound):
    """Return all worths of the spaces from 1 on, each from 0 to the bound."""
    return product(range(bound + 1), repeat=2 * box)


def some_text(chance, widest, crumb=False, box=None):
    """Return the text of a rule by chance, of this box if one is told; its bound is close to the most that fits."""
    box = box or chance.randint(1, widest)
    lines = []
    rising = chance.random() < 0.6
    for place in range(1, 2 * box + 1):
        if chance.random() < 0.5 or place == 1 and not crumb and chance.random() < 0.5:
            continue
        step_worth = chance.randint(0, 9) + (2 * place if rising else 0)
        if place == 1:
            step_worth = chance.randint(0, 2) if crumb else 0
        lines.append(f"{'beyond' if place % 2 else 'from'} {place // 2} {step_worth}")
    text = "\n".join([f"box {box}", "bound 1", *lines])
    bound = 5 if crumbs(text) else max(1, most_of(text, Fraction(box)) + chance.randint(-2, 2))
    return "\n".join([f"box {box}", f"bound {bound}", *lines])


def some_texts(seed, many, widest, crumb=False):
    """Return so many texts of rules by chance."""
    chance = Random(seed)
    return [some_text(chance, widest, crumb) for _ in range(many)]


def some_size(chance, box):
    """Return a size by chance that is no greater than the box, often close to a whole number."""
    under = chance.choice((1, 1, 2, 3, 7, 100, 999999999))
    over = chance.randint(1, box) * under + chance.choice((-1, 0, 1, chance.randint(0, under)))
    size = Fraction(min(max(over, 1), box * under), under)
    return (size.numerator, size.denominator)


def tells(text, lot):
    """Return how many boxes the rule of the text tells of the lot."""
    return -(-reckons(text, lot) // parts(text)[1])


def share_of(text, size):
    """Return the worth of a size as a share of the bound."""
    return Fraction(worth(parts(text)[2], size), parts(text)[1])


def tells_more(text, others, lot):
    """Tell whether the lot is one of which the rule tells more boxes than each other one."""
    sizes = [Fraction(*size) for size, _ in lot]
    assert len(set(sizes)) == len(sizes) and all(0 < size <= parts(text)[0] for size in sizes)
    assert all(type(many) is int and many > 0 for _, many in lot)
    return all(tells(text, lot) > tells(other, lot) for other in others)


def mixture_covers(text, others, times):
    """Tell whether the others, so many times, come for each size to as much as the rule as many times."""
    for size in halves(parts(text)[0]):
        mixed = sum(many * share_of(other, size) for other, many in zip(others, times))
        if mixed < sum(times) * share_of(text, size):
            return False
    return sum(times) > 0 and min(times) >= 0


def all_patterns(box, things):
    """Return all patterns of the things."""
    rows = product(*[range(box // size + 1) for size, _ in things])
    return [row for row in rows if 0 < sum(many * size for many, (size, _) in zip(row, things)) <= box]


def full_ones(box, things):
    """Return how many patterns there are beside which no further thing fits."""
    filled = [sum(many * size for many, (size, _) in zip(row, things)) for row in all_patterns(box, things)]
    return sum(fill + things[0][0] > box for fill in filled)


def shares_cover(box, things, worth_, rows):
    """Tell whether the patterns, so many times as their shares, cover all things and come to the worth."""
    patterns = [pattern for pattern, _ in rows]
    shares = [Fraction(*share) for _, share in rows]
    if len(set(patterns)) != len(patterns) or min(shares) <= 0 or sum(shares) != worth_:
        return False
    for pattern in patterns:
        fill = sum(many * size for many, (size, _) in zip(pattern, things))
        if len(pattern) != len(things) or min(pattern) < 0 or not 0 < fill <= box:
            return False
    covered = [sum(pattern[at] * share for pattern, share in zip(patterns, shares)) for at in range(len(things))]
    return all(many <= found for found, (_, many) in zip(covered, things))


def rule_reckons(box, things, worth_, text):
    """Tell whether the text is that of a sound rule of the box that reckons the things so."""
    lot = [((size, 1), many) for size, many in things]
    return parts(text)[0] == box and is_sound(text) and Fraction(reckons(text, lot), parts(text)[1]) == worth_


def fewest_boxes(box, things):
    """Return the fewest boxes for all things, by going through all ways to put one behind the other."""
    sizes = [size for size, many in things for _ in range(many)]

    @lru_cache(maxsize=None)
    def put(at, fills):
        if at == len(sizes):
            return len(fills)
        ways = [put(at + 1, tuple(sorted([*fills, sizes[at]])))]
        for place, fill in enumerate(fills):
            if fill + sizes[at] <= box:
                ways.append(put(at + 1, tuple(sorted([*fills[:place], fill + sizes[at], *fills[place + 1:]]))))
        return min(ways)

    return put(0, ())


def some_things(chance, box, most_sizes, most_many):
    """Return things for the box by chance."""
    sizes = sorted(chance.sample(range(1, box + 1), min(box, chance.randint(1, most_sizes))))
    return tuple((size, chance.randint(1, most_many)) for size in sizes)
