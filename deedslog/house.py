"""The house: eight shelves of numbers, and a set of labels."""

SHELF_COUNT = 8
SHELF_ROOM = 12


def is_shelf(s):
    return 0 <= s < SHELF_COUNT


class House:
    def __init__(self):
        self.shelves = [[] for s in range(SHELF_COUNT)]
        # A dict of True stands for the set of labels: setting a label again changes nothing.
        self.labels = {}

    def has_place(self, s, i):
        return is_shelf(s) and 0 <= i < len(self.shelves[s])

    def has_room(self, s):
        return is_shelf(s) and len(self.shelves[s]) < SHELF_ROOM
