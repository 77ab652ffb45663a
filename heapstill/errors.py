"""The refusals of the program: one class for each cause, all of them under HeapError."""


class HeapError(ValueError):
    pass


class NoNet(HeapError):
    pass


class NoRow(HeapError):
    pass


class NoHeap(HeapError):
    pass


class TooMany(HeapError):
    pass


class NotPlain(HeapError):
    pass


class NoRings(HeapError):
    pass


class NotAgain(HeapError):
    pass


class NoTree(HeapError):
    pass


class NoText(HeapError):
    pass


class NoName(HeapError):
    pass


class NoDeed(HeapError):
    pass
