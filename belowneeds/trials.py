"""Trials: what is done to an object within one has no effect behind it."""


class Trial:
    """A context manager that gives an object, which is at its end as it was at its beginning."""

    def __init__(self, owner, ended):
        """The object, and the list of the ends of its trials, in which it looks when it is asked next."""
        self._owner = owner
        self._ended = ended

    def __enter__(self):
        self._owner.begin_trial()
        return self._owner

    def __exit__(self, kind, value, trace):
        self._ended.append(1)
