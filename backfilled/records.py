"""Records: what was computed, with what it was computed from."""


class Record:
    """Tells that a code computes a content of a partition from contents of those that it needs."""

    def __init__(self, table, day, code, inputs, content):
        self.table = table
        self.day = day
        self.code = code
        self.inputs = inputs
        self.content = content

    def __eq__(self, other):
        return (
            isinstance(other, Record) and self.table == other.table and self.day == other.day
            and self.code == other.code and self.inputs == other.inputs and self.content == other.content
        )


def contents_in(inputs):
    """The list of the contents of inputs."""
    return [content for _, _, content in inputs]
