"""Contents: sets of rows of the same columns."""

from backfilled.errors import BadColumns, BadRow, UnknownColumn
from backfilled.values import is_columns, is_row


class Sound:
    """Different rows that are known to be rows of their columns, so that they need not be looked at again."""

    def __init__(self, different):
        self.different = different


class Content:
    """The rows of a partition or of an answer; it never changes."""

    def __init__(self, columns, rows):
        if isinstance(rows, Sound):
            self._rows = sorted(rows.different)
        else:
            self._rows = sorted(set(checked_rows(columns, rows)))
        self._columns = tuple(columns)
        self._lookup = None

    @property
    def columns(self):
        """The columns."""
        return list(self._columns)

    @property
    def rows(self):
        """The rows, each once, in ascending order."""
        return list(self._rows)

    @property
    def _there(self):
        """A dict of the rows, made when it is asked for: most contents are never asked."""
        if self._lookup is None:
            self._lookup = {row: True for row in self._rows}
        return self._lookup

    def __contains__(self, x):
        return is_row(x, self._columns) and x in self._there

    def __len__(self):
        return len(self._rows)

    def __eq__(self, other):
        return isinstance(other, Content) and self._columns == other._columns and self._rows == other._rows

    def __sub__(self, other):
        if not self._fits(other):
            raise BadColumns(other)
        there = {row: True for row in other._rows}
        return Content(self._columns, Sound([row for row in self._rows if row not in there]))

    def __add__(self, other):
        if not self._fits(other):
            raise BadColumns(other)
        return Content(self._columns, Sound(list({row: True for row in self._rows + other._rows})))

    def __call__(self, name):
        """The values in the column of a name, one for each row."""
        names = [column[0] for column in self._columns]
        if not isinstance(name, str) or name not in names:
            raise UnknownColumn(name)
        at = names.index(name)
        return [row[at] for row in self._rows]

    def has_shape(self, shape):
        """Whether a tuple has its columns."""
        return self._columns == shape

    def _fits(self, other):
        """Whether any value is a content of the same columns."""
        return isinstance(other, Content) and self._columns == other._columns


def checked_rows(columns, rows):
    """The rows, if columns are columns and these are rows of them."""
    if not is_columns(columns):
        raise BadColumns(columns)
    if not isinstance(rows, list):
        raise BadRow(rows)
    for row in rows:
        if not is_row(row, columns):
            raise BadRow(row)
    return rows
