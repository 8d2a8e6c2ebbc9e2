"""Fractions: pairs (top, bottom) of whole numbers in lowest terms."""


def common_part(one, other):
    """The greatest number that divides both; neither is below nought, and not both are nought."""
    while other:
        one, other = other, one % other
    return one


def lowest(top, bottom):
    """The fraction top parted by bottom, in lowest terms."""
    part = common_part(abs(top), bottom)
    return (top // part, bottom // part)


def less(one, other):
    """True where the first fraction is less than the second."""
    return one[0] * other[1] < other[0] * one[1]


def mean(fractions):
    """The sum of the fractions parted by how many they are."""
    top = 0
    bottom = 1
    for next_top, next_bottom in fractions:
        # Like bottoms are common, and a plain product of bottoms would grow with each fraction.
        part = common_part(bottom, next_bottom)
        top = top * (next_bottom // part) + next_top * (bottom // part)
        bottom = bottom * (next_bottom // part)
    return lowest(top, bottom * len(fractions))
