"""The refusals: one class for each, all straight under FaceError."""


class FaceError(ValueError):
    pass


class NoText(FaceError):
    pass


class Twice(FaceError):
    pass


class NoName(FaceError):
    pass


class NoCount(FaceError):
    pass


class NoKind(FaceError):
    pass


class NoFace(FaceError):
    pass


class Stuck(FaceError):
    pass


class TooGreat(FaceError):
    pass


class TooLong(FaceError):
    pass


class TooDeep(FaceError):
    pass


class NoTie(FaceError):
    pass


class NoRow(FaceError):
    pass


class NoProgram(FaceError):
    pass
