"""The refusals of the program: one class for each, all under TrueError."""


class TrueError(ValueError):
    pass


class NoPays(TrueError):
    pass


class NoHouse(TrueError):
    pass


class NoMenu(TrueError):
    pass


class NoWeight(TrueError):
    pass


class NoShare(TrueError):
    pass


class NoRule(TrueError):
    pass


class NoRow(TrueError):
    pass


class NoStand(TrueError):
    pass


class NoWord(TrueError):
    pass
