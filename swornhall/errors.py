"""The refusals of the hall, one class for each."""


class HallError(ValueError):
    pass


class BadSheet(HallError):
    pass


class NoCraft(HallError):
    pass


class Unmet(HallError):
    pass


class NotShown(HallError):
    pass


class Unfit(HallError):
    pass
