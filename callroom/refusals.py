"""The numbers that are answered alone when a call is refused."""

NO_TOLD_FORM = -9
OUT_OF_RANGE = -1
LIST_NOT_AS_TOLD = -2
SAME_STATE = -4
TOO_MANY_LINES = -6
NO_SUCH_VALUE = -8
