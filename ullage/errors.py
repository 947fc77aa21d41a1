"""The refusals: each a class of its own right under RoomError."""


class RoomError(ValueError):
    pass


class BadShape(RoomError):
    pass


class NoNode(RoomError):
    pass


class NoPage(RoomError):
    pass


class NotRooms(RoomError):
    def __init__(self, at):
        self.at = at


class NotATree(RoomError):
    pass


class BadRoom(RoomError):
    pass


class Unlike(RoomError):
    pass


class BadScale(RoomError):
    pass


class BadStore(RoomError):
    pass


class BadName(RoomError):
    pass


class BadLength(RoomError):
    pass


class Twice(RoomError):
    pass


class Full(RoomError):
    pass


class NoThing(RoomError):
    pass


class NoDeed(RoomError):
    pass


class NoLine(RoomError):
    pass
