"""Lefts and rights in pairs, each in one pair at most.

Rows, a dict, tell for each left the rights that may be paired with it.
"""


def best_partners(rows):
    """For each right in a pair its left, the pairs being as many as possible."""
    partners = {}
    for left in rows:
        find_right(left, rows, partners, {})
    return partners


def find_right(left, rows, partners, tried):
    """Pair the left with a right not tried yet, moving other lefts to other rights; whether that can be done."""
    for right in rows[left]:
        if right not in tried:
            tried[right] = True
            if right not in partners or find_right(partners[right], rows, partners, tried):
                partners[right] = left
                return True
    return False


def least_cover(rows, partners):
    """As few lefts and rights as can be that have one of each two that may be paired: (lefts, rights)."""
    paired = list(partners.values())
    waiting = [left for left in rows if left not in paired]
    reached = {}
    # A right reached by turns from a left without a partner has one itself, or one pair more could be made.
    while waiting:
        left = waiting.pop()
        for right in rows[left]:
            if right not in reached:
                reached[right] = partners[right]
                waiting.append(partners[right])
    moved = list(reached.values())
    return [left for left in paired if left not in moved], list(reached)
