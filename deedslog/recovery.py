"""Recovery: what can be read of a log's bytes, from the beginning on as long as its records are right."""

from deedslog.deeds import BYTE_COUNTS, can_be_done, carry_out, deed_of_bytes
from deedslog.house import House
from deedslog.records import last_check, with_check

CHECK_BYTES = 2


# No record is empty, so an empty list can stand for none that's right.
def checked_record(log, start, check_before):
    if start >= len(log) or log[start] not in BYTE_COUNTS:
        return []
    middle = start + BYTE_COUNTS[log[start]]
    record = log[start:middle + CHECK_BYTES]
    # Where the log ends too early, what's taken of it is shorter than with a check, so that's no record either.
    if record != with_check(check_before, log[start:middle]):
        return []
    return record


# Whether the deeds can be done isn't looked at here: the common beginning of two logs doesn't ask for it.
def checked_records(log):
    records = []
    start = 0
    record = checked_record(log, 0, 0)
    while len(record) > 0:
        records.append(record)
        start += len(record)
        record = checked_record(log, start, last_check(record))
    return records


def recovered_deeds(log):
    house = House()
    deeds = []
    for record in checked_records(log):
        deed = deed_of_bytes(record[:-CHECK_BYTES])
        if not can_be_done(house, deed):
            break
        carry_out(house, deed)
        deeds.append(deed)
    return deeds


def common_count(log, other_log):
    count = 0
    for record, other_record in zip(checked_records(log), checked_records(other_log)):
        if record != other_record:
            break
        count += 1
    return count
