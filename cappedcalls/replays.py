"""Replays: answers from a log, in the place of answers over a store."""

from cappedcalls.errors import NotNoted


class Replay:
    """Answers each call with the rows that were noted for it.

    The log is not copied: what is noted later is answered, too.
    """

    def __init__(self, log):
        self.schema = log.schema
        self._log = log

    def __call__(self, service, given):
        rows = self._log.noted_rows(service, given)
        if rows is None:
            raise NotNoted(service, given)
        return rows
