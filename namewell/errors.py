"""The refusals of Namewell, one class for each."""


class WellError(ValueError):
    pass


class NoName(WellError):
    pass


class NoKind(WellError):
    pass


class NoZone(WellError):
    pass


class NoDeed(WellError):
    pass


class ZoneError(WellError):
    def __init__(self, row):
        WellError.__init__(self, f"row {row}")
        self.row = row


class BadRow(ZoneError):
    pass


class BadName(ZoneError):
    pass


class Outside(ZoneError):
    pass


class BadCut(ZoneError):
    pass


class Clash(ZoneError):
    pass
