"""The book: the object that the calls are made on, with its known deeds and its log.

Each call gives back the list of the numbers that it answers; a refusal is a list of its one number.
"""

from deedslog.deeds import bytes_of_deed, can_be_done, carry_out, house_after
from deedslog.house import House, is_shelf
from deedslog.records import last_check, record_behind, records_of

LOG_ROOM = 2000

OUT_OF_RANGE = -1
NOT_POSSIBLE = -6
LOG_FULL = -7
NOT_SOUND = -8


class Book:
    def __init__(self):
        self.deeds = []
        self.house = House()
        # The right records of the known deeds, kept beside the log: its bytes need not stay right.
        self.records = []
        self.log = []

    def is_sound(self):
        return self.log == self.records

    # Going back does all deeds anew from the beginning: a deed's bytes don't tell what it took away.
    def know(self, deeds):
        self.deeds = list(deeds)
        self.house = house_after(deeds)
        self.records = records_of(deeds)
        self.log = list(self.records)

    def do(self, deed):
        if min(deed) < 0:
            return [OUT_OF_RANGE]
        if not self.is_sound():
            return [NOT_SOUND]
        if not can_be_done(self.house, deed):
            return [NOT_POSSIBLE]
        record = record_behind(last_check(self.records), deed)
        if len(self.log) + len(record) > LOG_ROOM:
            return [LOG_FULL]
        carry_out(self.house, deed)
        self.deeds.append(list(deed))
        self.records.extend(record)
        self.log.extend(record)
        return [len(self.deeds)]

    def undo(self):
        if not self.is_sound():
            return [NOT_SOUND]
        if len(self.deeds) == 0:
            return [NOT_POSSIBLE]
        self.know(self.deeds[:-1])
        return [len(self.deeds)]

    def shelf(self, s):
        if not is_shelf(s):
            return [OUT_OF_RANGE]
        numbers = self.house.shelves[s]
        return [len(numbers)] + numbers

    def marks(self):
        labels = sorted(self.house.labels)
        return [len(labels)] + labels

    def counts(self):
        sound = 1 if self.is_sound() else 0
        return [len(self.deeds), len(self.log), last_check(self.records), sound]

    def record(self, i):
        if not 0 <= i < len(self.deeds):
            return [OUT_OF_RANGE]
        return bytes_of_deed(self.deeds[i])
