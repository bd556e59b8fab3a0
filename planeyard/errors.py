"""The refusals: one class for each, all of them below YardError."""


class YardError(ValueError):
    pass


class NoNet(YardError):
    pass


class NoText(YardError):
    pass


class NoRing(YardError):
    pass


class NoEdge(YardError):
    pass


class NoFace(YardError):
    pass


class NoRoom(YardError):
    pass
