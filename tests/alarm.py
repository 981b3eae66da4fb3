"""A time limit for tests that does not wait for what takes too long."""

import signal


class TooLate(BaseException):
    """Ends what takes too long; no handler of the package catches it."""


def _end(*_):
    raise TooLate()


class Alarm:
    """Fails if what it is around has not ended behind so many seconds."""

    def __init__(self, case, seconds):
        self.case, self.seconds = case, seconds

    def __enter__(self):
        self.before = signal.signal(signal.SIGALRM, _end)
        signal.alarm(self.seconds)

    def __exit__(self, kind, value, trace):
        signal.alarm(0)
        signal.signal(signal.SIGALRM, self.before)
        if kind is TooLate:
            self.case.fail(f"not done within {self.seconds} seconds")
