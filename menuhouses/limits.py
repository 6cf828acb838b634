"""The limits that the whole program keeps to."""

MOST_THINGS = 10
MOST_PEOPLE = 24
MOST_LOOKS = 12
TABLE_THINGS = 5
