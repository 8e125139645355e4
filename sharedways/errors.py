"""The refusals of the program."""


class WareError(ValueError):
    pass


class BadNet(WareError):
    pass


class BadFlow(WareError):
    pass


class BadFloor(WareError):
    pass
