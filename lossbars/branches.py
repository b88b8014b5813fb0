"""What comes of what in a house, and attempts."""

from lossbars.stories import all_elders, greatest_common


def elders(house, number):
    """The ascending list of the elders in all of a moment."""
    house.story.told_at(number)
    return all_elders(house.story.entries, number)


def last_common(house, one, other):
    """The greatest number among the elders in all of two moments."""
    house.story.told_at(one)
    house.story.told_at(other)
    return greatest_common(house.story.entries, one, other)


def come_of(house, number):
    """The ascending list of the moments among whose elders in all a moment is."""
    house.story.told_at(number)
    return [later for later in range(len(house)) if number in all_elders(house.story.entries, later)]


def line_to(house, number):
    """The list of the deeds that lead from moment 0 to a moment by the elders that the log tells first."""
    house.story.told_at(number)
    found = []
    while number > 0:
        number, deed = house.story.entries[number - 1]
        found.append(deed)
    return found[::-1]


def attempt(house, action):
    """What a function that is handed the house returns; if an error leaves it, the house is as before."""
    before = house.story
    try:
        found = action(house)
        before = None
    finally:
        if before is not None:
            house.story = before
    return found


def tried(house, deeds):
    """The list of the numbers of the moments that some deeds make; none of them is done if one cannot be."""
    return attempt(house, lambda within: [within.do(deed) for deed in deeds])
