"""Papers: what a question was answered by, so that it can be gone through again."""


class Paper:
    """The base of the papers; it never changes, and tells nothing by itself."""

    def __init__(self, program):
        self._program = program
        # The name `program` stays free for methods, so this is no property.
        self.program = program

    @property
    def basis(self):
        """The program."""
        return self._program

    def told(self):
        """What the paper tells, in one word."""
        return "open"

    def holds(self):
        """Whether the paper is right."""
        return False

    def __bool__(self):
        return False

    def __repr__(self):
        return f"Paper({self.told()})"


def copied(value):
    """A value with new lists in it, however deep they are."""
    if isinstance(value, list):
        return [copied(item) for item in value]
    if isinstance(value, tuple):
        return tuple([copied(item) for item in value])
    return value


def is_listed(value):
    """Whether any value is a list, or a tuple that stands for one."""
    return isinstance(value, (list, tuple))


def is_words(value):
    """Whether any value is a tuple of strings and None alone, as the parts of papers are."""
    return isinstance(value, tuple) and all([word is None or isinstance(word, str) for word in value])
