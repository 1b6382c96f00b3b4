"""The book: the object that the calls are made on, with its known deeds and its log.

Each call gives back the list of the numbers that it answers; a refusal is a list of its one number.
"""

from deedslog.deeds import MARK, bytes_of_deed, can_be_done, carry_out, fewest_deeds, house_after, is_label
from deedslog.house import House, is_shelf
from deedslog.records import is_byte, last_check, record_behind, records_of
from deedslog.recovery import common_count, recovered_deeds

LOG_ROOM = 2000

OUT_OF_RANGE = -1
NO_LOG = -2
NOT_POSSIBLE = -6
LOG_FULL = -7
NOT_SOUND = -8


def can_be_a_log(numbers):
    return len(numbers) <= LOG_ROOM and all([is_byte(number) for number in numbers])


def with_count(numbers):
    return [len(numbers)] + numbers


class Book:
    def __init__(self):
        self.deeds = []
        self.house = House()
        # The right records of the known deeds, kept beside the log: its bytes need not stay right.
        self.records = []
        self.log = []

    def is_sound(self):
        return self.log == self.records

    # Going back does all deeds anew from the beginning: a deed's bytes don't tell what it took away.
    def know(self, deeds):
        self.deeds = list(deeds)
        self.house = house_after(deeds)
        self.records = records_of(deeds)
        self.log = list(self.records)

    def do(self, deed):
        if min(deed) < 0:
            return [OUT_OF_RANGE]
        if not self.is_sound():
            return [NOT_SOUND]
        if not can_be_done(self.house, deed):
            return [NOT_POSSIBLE]
        record = record_behind(last_check(self.records), deed)
        if len(self.log) + len(record) > LOG_ROOM:
            return [LOG_FULL]
        carry_out(self.house, deed)
        self.deeds.append(list(deed))
        self.records.extend(record)
        self.log.extend(record)
        return [len(self.deeds)]

    def undo(self):
        if not self.is_sound():
            return [NOT_SOUND]
        if len(self.deeds) == 0:
            return [NOT_POSSIBLE]
        self.know(self.deeds[:-1])
        return [len(self.deeds)]

    def shelf(self, s):
        if not is_shelf(s):
            return [OUT_OF_RANGE]
        return with_count(self.house.shelves[s])

    def marks(self):
        return with_count(sorted(self.house.labels))

    def counts(self):
        sound = 1 if self.is_sound() else 0
        return [len(self.deeds), len(self.log), last_check(self.records), sound]

    def record(self, i):
        if not 0 <= i < len(self.deeds):
            return [OUT_OF_RANGE]
        return bytes_of_deed(self.deeds[i])

    def at(self, n, s):
        if not 0 <= n <= len(self.deeds) or not is_shelf(s):
            return [OUT_OF_RANGE]
        return with_count(house_after(self.deeds[:n]).shelves[s])

    def since(self, n):
        if not is_label(n):
            return [OUT_OF_RANGE]
        for behind, deed in enumerate(reversed(self.deeds)):
            if deed == [MARK, n]:
                return [behind]
        return [NOT_POSSIBLE]

    def bytes_told(self):
        return with_count(self.log)

    def flip(self, p, b):
        if not 0 <= p < len(self.log) or not is_byte(b):
            return [OUT_OF_RANGE]
        byte_before = self.log[p]
        self.log[p] = b
        return [byte_before]

    def know_recovered(self, log):
        self.know(recovered_deeds(log))
        return [len(self.deeds), len(self.log)]

    def cut(self, n):
        if not 0 <= n <= len(self.log):
            return [OUT_OF_RANGE]
        return self.know_recovered(self.log[:n])

    def check(self):
        deeds = recovered_deeds(self.log)
        return [len(deeds), len(records_of(deeds)), len(self.log)]

    def mend(self):
        return self.know_recovered(self.log)

    def load(self, bytes_of):
        if not can_be_a_log(bytes_of):
            return [NO_LOG]
        return self.know_recovered(bytes_of)

    def common(self, bytes_of):
        if not can_be_a_log(bytes_of):
            return [NO_LOG]
        return [common_count(self.log, bytes_of)]

    def compact(self):
        if not self.is_sound():
            return [NOT_SOUND]
        count_before = len(self.log)
        self.know(fewest_deeds(self.house))
        return [count_before, len(self.log)]
