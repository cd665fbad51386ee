"""What a one holds, or all together: names with their values, and lists."""

from figuredeeds.errors import Fell
from figuredeeds.looks import is_value, place_in

LONGEST_LIST = 8


class Holding:
    """Names with their values, and lists, each in the play's order."""

    def __init__(self, names, lists):
        self.numbers = {name: value for name, value in names}
        self.rows = {name: list(row) for name, row in lists}

    def name_pairs(self):
        return [(name, self.numbers[name]) for name in self.numbers]

    def list_pairs(self):
        return [(name, list(self.rows[name])) for name in self.rows]

    def again(self):
        """One of its own that holds the same."""
        return Holding(self.name_pairs(), self.list_pairs())


def set_number(numbers, name, value):
    numbers[name] = value


def add_number(numbers, name, value):
    total = numbers[name] + value
    if not is_value(total):
        raise Fell("far")
    numbers[name] = total


def put_value(row, values):
    if len(row) >= LONGEST_LIST:
        raise Fell("full")
    row.append(values[0])


def drop_value(row, values):
    del row[place_in(row, values[0])]


def write_value(row, values):
    row[place_in(row, values[0])] = values[1]


NAME_DEEDS = {"set": set_number, "add": add_number}
LIST_DEEDS = {"put": put_value, "drop": drop_value, "write": write_value}
