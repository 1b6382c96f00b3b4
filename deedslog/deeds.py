"""The five kinds of deeds: their bytes, when they can be done, and what they do to a house.

A deed is a list: its kind, then its numbers in the order of the call, so push s v is [1, s, v].
"""

from deedslog.house import House

PUSH = 1
PULL = 2
SHIFT = 3
CLEAR = 4
MARK = 5

GREATEST_NUMBER = 65535
GREATEST_LABEL = 255


def bytes_of_deed(deed):
    # Only the number of a push may need two bytes; all other deeds are their bytes as they stand.
    if deed[0] == PUSH:
        return [PUSH, deed[1], deed[2] // 256, deed[2] % 256]
    return list(deed)


def can_be_done(house, deed):
    kind = deed[0]
    if kind == PUSH:
        return house.has_room(deed[1]) and 0 <= deed[2] <= GREATEST_NUMBER
    if kind == PULL:
        return house.has_place(deed[1], deed[2])
    if kind == SHIFT:
        return deed[1] != deed[2] and house.has_place(deed[1], deed[3]) and house.has_room(deed[2])
    if kind == CLEAR:
        # A shelf has a first place just when it isn't empty.
        return house.has_place(deed[1], 0)
    return 0 <= deed[1] <= GREATEST_LABEL


def carry_out(house, deed):
    kind = deed[0]
    if kind == PUSH:
        house.shelves[deed[1]].append(deed[2])
    elif kind == PULL:
        house.shelves[deed[1]].pop(deed[2])
    elif kind == SHIFT:
        number = house.shelves[deed[1]].pop(deed[3])
        house.shelves[deed[2]].append(number)
    elif kind == CLEAR:
        house.shelves[deed[1]] = []
    else:
        house.labels[deed[1]] = True


def house_after(deeds):
    house = House()
    for deed in deeds:
        carry_out(house, deed)
    return house
