"""Texts of members: members as words in one line."""

from tarhouse.errors import NoData, NoMode, NoName, NoPieces, NoSize, NoText, NoTime
from tarhouse.members import Directory, File, Link, Sparse, Symlink, target_of

DIGITS = "0123456789"
OCTAL_DIGITS = "01234567"
DATA_DIGITS = "0123456789abcdef"
MOST_DIGITS = 60
# How many words the text of a member has; that of a sparse file has at least so many.
WORDS = {"file": 5, "sparse": 5, "directory": 4, "symlink": 5, "link": 5}


def show_member(member):
    """Return the text of a member."""
    words = [member.KIND, member.name, f"{member.mode:04o}", str(member.time)]
    if isinstance(member, File):
        words.append(show_data(member.data))
    elif isinstance(member, Sparse):
        words.append(str(member.size))
        words += [f"{offset}:{show_data(data)}" for offset, data in member.pieces]
    elif not isinstance(member, Directory):
        words.append(target_of(member))
    return " ".join(words)


def show_data(data):
    """Return the word that writes data."""
    return "x" + data.hex()


def read_member(text):
    """Return the member that a text, any value, writes."""
    words = text.split(" ") if isinstance(text, str) else [""]
    kind = words[0]
    least = WORDS.get(kind, 0)
    if len(words) < least or kind != "sparse" and len(words) != least:
        raise NoText(text)
    try:
        return member_of(words)
    except (NoName, NoData, NoSize, NoPieces, NoMode, NoTime):
        raise NoText(text) from None


def member_of(words):
    """Return the member that words write; raise an error of its class if they write none."""
    kind, name, *more = words
    mode = read_mode(more[0])
    time = read_number(more[1])
    if kind == "file":
        return File(name, read_data(more[2]), mode=mode, time=time)
    if kind == "sparse":
        size = read_number(more[2])
        pieces = [read_piece(word) for word in more[3:]]
        return Sparse(name, size, *pieces, mode=mode, time=time)
    if kind == "directory":
        return Directory(name, mode=mode, time=time)
    if kind == "symlink":
        return Symlink(name, more[2], mode=mode, time=time)
    return Link(name, more[2], mode=mode, time=time)


def has_only(word, characters):
    """Return whether a word has characters, and only these."""
    return word != "" and all([character in characters for character in word])


def read_number(word):
    """Return the number that a word writes, -1 if it writes none."""
    if not has_only(word, DIGITS) or len(word) > MOST_DIGITS:
        return -1
    if word.startswith("0") and word != "0":
        return -1
    return int(word)


def read_mode(word):
    """Return the mode that a word writes, -1 if it writes none."""
    if not has_only(word, OCTAL_DIGITS) or len(word) != 4:
        return -1
    return int(word, 8)


def read_data(word):
    """Return the data that a word writes, None if it writes none."""
    digits = word.removeprefix("x")
    if digits == word or len(digits) % 2 == 1:
        return None
    if not all([digit in DATA_DIGITS for digit in digits]):
        return None
    return bytes.fromhex(digits)


def read_piece(word):
    """Return the piece that a word writes; if it writes none, a tuple that is no piece."""
    offset, colon, data = word.partition(":")
    return (read_number(offset), read_data(data))
