"""Choices of parts of a product, and the sum over them that is its term."""
from firstterms.checks import check_from
from firstterms.errors import TooMany
from firstterms.products import check_product


def choices(product, n, most):
    """The ascending tuple of all choices of n, if they are not more than most."""
    check_product(product)
    check_from(n, 0)
    check_from(most, 0)
    parts = parts_of(product, n)
    counts = choice_counts(product, parts, n)
    if counts[0][n] > most:
        raise TooMany(most)
    found = []
    add_choices(parts, [may_repeat(product, part) for part in parts], counts, 0, n, (), found)
    return tuple(found)


def parts_of(product, n):
    """The ascending list of the parts of a product whose size is at most n."""
    parts = []
    for d, r in product:
        for size in range(d, n + 1, d):
            parts.extend([(size, d, colour) for colour in range(1, abs(r) + 1)])
    return sorted(parts)


def may_repeat(product, part):
    """Whether a part may stand in a choice more than once."""
    return any([r < 0 for d, r in product if d == part[1]])


def choice_counts(product, parts, n):
    """For each place in the parts, and one more, how many choices of 0 to n there are of the parts from there on."""
    counts = [[1] + [0] * n]
    for part in reversed(parts):
        behind = counts[-1]
        here = list(behind)
        smaller = here if may_repeat(product, part) else behind
        for rest in range(part[0], n + 1):
            here[rest] += smaller[rest - part[0]]
        counts.append(here)
    return counts[::-1]


def add_choices(parts, repeats, counts, first, rest, chosen, found):
    """Adds to found, ascending, each choice that goes on from chosen with parts from first on of the sum rest."""
    if rest == 0:
        found.append(chosen)
        return
    for at in range(first, len(parts)):
        # The counts tell where no choice goes on with this part, so no step is taken in vain.
        if counts[at][rest] != counts[at + 1][rest]:
            part = parts[at]
            behind = at if repeats[at] else at + 1
            add_choices(parts, repeats, counts, behind, rest - part[0], chosen + (part,), found)


def choice_sum(product, n):
    """The sum over all choices of n of 1, or of -1 if the parts whose r is above 0 are of an odd number."""
    check_product(product)
    check_from(n, 0)
    sums = [1] + [0] * n
    # Choices may be far too many to go through, so each part changes the sums of all choices at once.
    for part in parts_of(product, n):
        size = part[0]
        if may_repeat(product, part):
            for rest in range(size, n + 1):
                sums[rest] += sums[rest - size]
        else:
            for rest in range(n, size - 1, -1):
                sums[rest] -= sums[rest - size]
    return sums[n]
