"""A desk: an editor and a house that take commands."""

from tarhouse.blocks import BLOCK_SIZE
from tarhouse.editing import Editor
from tarhouse.errors import NoCommand, NoText
from tarhouse.houses import House
from tarhouse.links import dangers, resolved
from tarhouse.members import is_name
from tarhouse.texts import read_member, read_number, show_member
from tarhouse.unpacking import unpacked

PLAIN_COMMANDS = ("undo", "list", "archive", "unpack", "empty", "tree", "dangers")


class Desk:
    """An editor and a house, which commands change and show."""

    def __init__(self):
        self.editor = Editor()
        self.home = House()

    def say(self, command):
        """Take a command, any value; return the answer."""
        word, given = read_command(command)
        if word in ("append", "replace", "remove", "undo"):
            answer = shown_numbers(self.edit(word, given))
        elif word in ("unpack", "empty"):
            answer = self.fill(word)
        else:
            answer = self.show(word, given)
        return "-" if answer == "" else answer

    def edit(self, word, given):
        """Edit the archive; return the blocks that are written."""
        if word == "append":
            return self.editor.add(given[0])
        if word == "replace":
            return self.editor.exchange(given[0], given[1])
        if word == "remove":
            return self.editor.take_out(given[0])
        return self.editor.undo()

    def fill(self, word):
        """Unpack the members into the house, or make it empty."""
        if word == "empty":
            self.home = House()
            return "ok"
        self.home = unpacked(self.home, self.editor.members)
        return str(len(self.home))

    def show(self, word, given):
        """Answer a command that changes nothing."""
        if word == "list":
            return "; ".join([show_member(member) for member in self.editor.members])
        if word == "archive":
            return str(len(self.editor.archive) // BLOCK_SIZE)
        if word == "tree":
            return "; ".join([f"{path} {thing[0]}" for path, thing in self.home.entries()])
        if word == "resolve":
            return shown_words(resolved(self.home, given[0]))
        return " ".join([f"{index}:{danger}" for index, danger in dangers(self.editor.members)])


def shown_numbers(numbers):
    """Return numbers, separated by spaces."""
    return " ".join([str(number) for number in numbers])


def shown_words(words):
    """Return words that are not empty, separated by spaces."""
    return " ".join([word for word in words if word != ""])


def read_command(command):
    """Return the first word of a command, and the list of what is given behind it."""
    if not isinstance(command, str):
        raise NoCommand(command)
    if command in PLAIN_COMMANDS:
        return command, []
    word, space, rest = command.partition(" ")
    try:
        given = read_given(word, rest)
    except NoText:
        raise NoCommand(command) from None
    if given is None:
        raise NoCommand(command)
    return word, given


def read_given(word, rest):
    """Return the list of what is given behind the first word of a command, or None.

    Raise `NoText` if a member is asked for and not given.
    """
    if word == "append":
        return [read_member(rest)]
    if word == "replace":
        index, space, text = rest.partition(" ")
        return given_index(index, [read_member(text)])
    if word == "remove":
        return given_index(rest, [])
    if word == "resolve" and is_name(rest):
        return [rest]
    return None


def given_index(word, more):
    """Return the list of the index that a word writes and of what is behind it, None if it writes none."""
    index = read_number(word)
    return None if index < 0 else [index, *more]
