"""The refusals: one class for each, all of them under HeapError."""


class HeapError(ValueError):
    pass


class BadSet(HeapError):
    pass


class NoSuch(HeapError):
    pass


class BadFamily(HeapError):
    pass


class NoText(HeapError):
    pass
