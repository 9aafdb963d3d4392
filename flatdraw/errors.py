"""The refusals of Flatdraw."""


class FlatError(ValueError):
    """Any refusal."""


class NoWeb(FlatError):
    """What was handed in makes no web."""


class NoPoint(FlatError):
    """What was handed in is no point of the web."""


class NoTurns(FlatError):
    """What was handed in are no turns of the web."""
