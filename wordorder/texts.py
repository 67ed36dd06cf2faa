"""The texts of tables, written."""


def show_table(table):
    """Return the text of a table: its words, separated by single spaces."""
    ones, tens, hundred, scales = table
    return " ".join([*ones, *tens, hundred, *scales])
