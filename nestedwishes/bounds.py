"""Bounds of numbers."""

from nestedwishes.errors import BadNumber
from nestedwishes.names import is_plain_int


def check_number(number, greatest):
    """Raise BadNumber if a value is not an integer from 0 to the greatest one."""
    if not is_plain_int(number) or not 0 <= number <= greatest:
        raise BadNumber("not an integer within the bounds")
