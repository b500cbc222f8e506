"""Places: how many of the laid ones the wanted looks have."""


def wanted_places(size, bad, kept, hands):
    """The places at which looks are wanted, rising."""
    end = size + 1 if bad is None else bad
    wanted = [place for place in kept if place < end]
    while len(wanted) < min(hands, end - 1):
        # A look at all of them may let all in, but not where it is known bad.
        if bad is None and size not in wanted:
            wanted.append(size)
        else:
            wanted.append(middle_of_gap([0] + wanted + [end]))
        wanted = sorted(wanted)
    return wanted


def most_bad(width, hands):
    """The most looks settled otherwise than yes ahead of a new beginning."""
    # One hand halves what is open with each of them.
    return width.bit_length() if hands == 1 else width


def middle_of_gap(fence):
    """The middle of the greatest gap of a rising list, the lowest of like ones."""
    low = fence[0]
    high = low
    for below, above in zip(fence, fence[1:]):
        if above - below > high - low:
            low = below
            high = above
    return (low + high) // 2
