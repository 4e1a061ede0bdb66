"""The refusals: one class each, so that a caller can take just the one it means."""


class QueueError(ValueError):
    pass


class BadName(QueueError):
    pass


class Missing(QueueError):
    pass


class There(QueueError):
    pass


class Stopped(QueueError):
    pass


class Broken(QueueError):
    pass


class BadRow(QueueError):
    pass


class BadSettings(QueueError):
    pass


class BadBody(QueueError):
    pass


class BadHand(QueueError):
    pass


class BadNumber(QueueError):
    pass


class NotHeld(QueueError):
    pass


class BadDeed(QueueError):
    pass
