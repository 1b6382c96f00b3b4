"""Records: a deed's bytes and the two bytes of its check, which hangs on all records before it."""

from deedslog.deeds import bytes_of_deed

CHECK_FACTOR = 257
CHECK_MODULUS = 65521

GREATEST_BYTE = 255


def is_byte(number):
    return 0 <= number <= GREATEST_BYTE


def check_behind(check_before, deed_bytes):
    check = check_before
    for byte in deed_bytes:
        check = (CHECK_FACTOR * check + byte + 1) % CHECK_MODULUS
    return check


def with_check(check_before, deed_bytes):
    check = check_behind(check_before, deed_bytes)
    return deed_bytes + [check // 256, check % 256]


def record_behind(check_before, deed):
    return with_check(check_before, bytes_of_deed(deed))


def last_check(records):
    if len(records) == 0:
        return 0
    return records[-2] * 256 + records[-1]


def records_of(deeds):
    records = []
    for deed in deeds:
        records.extend(record_behind(last_check(records), deed))
    return records
