"""The base classes of all papers and of all denials."""


class Paper:
    """Keeps what it is called with. Each paper below defines `__init__` and `fields`."""

    def fields(self):
        """A tuple of all that the paper keeps; a paper that keeps something tells its own."""
        return ()

    def __eq__(self, other):
        # No two papers have the same name, so equal names tell equal classes.
        return (
            isinstance(other, Paper)
            and self.__class__.__name__ == other.__class__.__name__
            and self.fields() == other.fields()
        )

    def __bool__(self):
        return True


class Denial(Paper):
    """A paper that says no."""

    def __bool__(self):
        return False
