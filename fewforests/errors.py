"""The refusals."""


class WebsError(ValueError):
    """Any refusal of this program."""


class NoWeb(WebsError):
    """What was handed in is no web."""


class OnePoint(WebsError):
    """The question makes no sense of a web with one point."""


class TooGreat(WebsError):
    """The web is, or would be, beyond the bounds of the question."""


class TooFull(WebsError):
    """The ties cannot all be laid."""


class TooMany(WebsError):
    """There are as many ties or forests as there may be."""


class NoTie(WebsError):
    """What was handed in tells no tie."""


class NoStep(WebsError):
    """There is no forest to give up."""


class NoText(WebsError):
    """What was handed in is no text of a web or of a laying."""
