"""What the halls refuse with."""


# Any refusal.
class HallError(ValueError):
    pass


# A hand that is not there, or the same one twice.
class NoHand(HallError):
    pass


# What cannot be done as things stand.
class NotNow(HallError):
    pass
