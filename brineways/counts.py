"""How many years, or how many times."""

from brineways.errors import NoYear
from brineways.fractions import is_whole

MOST_YEARS = 10 ** 12


def check_many(many, fewest):
    """Refuses anything that is no whole number from the fewest to 10 ** 12."""
    if not is_whole(many) or not fewest <= many <= MOST_YEARS:
        raise NoYear("so many years or times are not gone through")
