"""The five kinds of deeds: their bytes, when they can be done, and what they do to a house.

A deed is a list: its kind, then its numbers in the order of the call, so push s v is [1, s, v].
"""

from deedslog.house import House

PUSH = 1
PULL = 2
SHIFT = 3
CLEAR = 4
MARK = 5

# How many bytes a deed of each kind has.
BYTE_COUNTS = {1: 4, 2: 3, 3: 4, 4: 2, 5: 2}

GREATEST_NUMBER = 65535
GREATEST_LABEL = 255


def is_label(n):
    return 0 <= n <= GREATEST_LABEL


def bytes_of_deed(deed):
    # Only the number of a push may need two bytes; all other deeds are their bytes as they stand.
    if deed[0] == PUSH:
        return [PUSH, deed[1], deed[2] // 256, deed[2] % 256]
    return list(deed)


def deed_of_bytes(deed_bytes):
    if deed_bytes[0] == PUSH:
        return [PUSH, deed_bytes[1], deed_bytes[2] * 256 + deed_bytes[3]]
    return list(deed_bytes)


def can_be_done(house, deed):
    kind = deed[0]
    if kind == PUSH:
        return house.has_room(deed[1]) and 0 <= deed[2] <= GREATEST_NUMBER
    if kind == PULL:
        return house.has_place(deed[1], deed[2])
    if kind == SHIFT:
        return deed[1] != deed[2] and house.has_place(deed[1], deed[3]) and house.has_room(deed[2])
    if kind == CLEAR:
        # A shelf has a first place just when it isn't empty.
        return house.has_place(deed[1], 0)
    return is_label(deed[1])


def carry_out(house, deed):
    kind = deed[0]
    if kind == PUSH:
        house.shelves[deed[1]].append(deed[2])
    elif kind == PULL:
        house.shelves[deed[1]].pop(deed[2])
    elif kind == SHIFT:
        number = house.shelves[deed[1]].pop(deed[3])
        house.shelves[deed[2]].append(number)
    elif kind == CLEAR:
        house.shelves[deed[1]] = []
    else:
        house.labels[deed[1]] = True


def house_after(deeds):
    house = House()
    for deed in deeds:
        carry_out(house, deed)
    return house


def fewest_deeds(house):
    deeds = []
    for s, numbers in enumerate(house.shelves):
        deeds.extend([[PUSH, s, v] for v in numbers])
    deeds.extend([[MARK, n] for n in sorted(house.labels)])
    return deeds
