"""The numbers that refusals are answered by."""

OUT_OF_RANGE = -1
TOO_HEAVY = -2
TOO_MANY = -3
TOO_LITTLE = -4
