"""The fields of a header that is read, and the first one that is wrong."""

from tarhouse.headers import LONG_NAME, MAGIC, REST_SIZE, TEXT_SIZE, checksum_field
from tarhouse.members import is_mode, is_name

LONG_KINDS = ("K", "L")
TARGET_KINDS = ("1", "2")
BEHIND_LONG_TARGETS = ("L", "1", "2")
# The least and the greatest number of stored bytes of each kind.
SIZES = {"0": (0, 4096), "S": (512, 4608), "K": (102, 251), "L": (102, 251), "5": (0, 0), "2": (0, 0), "1": (0, 0)}


class Heading:
    """The fields of a header: None for what is no ASCII, -1 for what is no number."""

    def __init__(self, block):
        self.name = text_in(block[:100])
        self.mode = number_in(block[100:108])
        self.owner = number_in(block[108:116])
        self.group = number_in(block[116:124])
        self.size = number_in(block[124:136])
        self.time = number_in(block[136:148])
        self.kind = text_in(block[156:157])
        self.target = text_in(block[157:257])


def text_in(data):
    """Return what stands ahead of the zero bytes at the end of data."""
    text = data.rstrip(b"\x00")
    if not all([byte < 128 for byte in text]):
        return None
    return text.decode("ascii")


def number_in(data):
    """Return the number in an octal field."""
    digits = data[:-1]
    if data[-1] != 0 or not all([byte in b"01234567" for byte in digits]):
        return -1
    return int(digits.decode("ascii"), 8)


def wrong_field(block, heading, long_name, long_target):
    """Return the first wrong field of a header, empty if it is right.

    `long_name` and `long_target` are the texts of the long parts in front of
    it, empty if there are none.
    """
    is_long = heading.name == LONG_NAME
    least, most = SIZES.get(heading.kind, (0, 0))
    checks = [
        ("name", is_right_name(heading.name, long_name)),
        ("mode", heading.mode == 0 if is_long else is_mode(heading.mode)),
        ("owner", heading.owner == 0),
        ("group", heading.group == 0),
        ("size", heading.size >= 0),
        ("time", heading.time == 0 if is_long else heading.time >= 0),
        ("kind", is_right_kind(heading.kind, is_long, long_target)),
        ("target", is_right_target(heading, long_target)),
        ("magic", block[257:265] == MAGIC),
        ("rest", block[265:] == bytes(REST_SIZE)),
        ("checksum", block[148:156] == checksum_field(block)),
        ("size", least <= heading.size <= most),
    ]
    for field, is_right in checks:
        if not is_right:
            return field
    return ""


def is_right_name(name, long_name):
    """Return whether a header may have this name behind such long parts."""
    if long_name != "":
        return name == long_name[:TEXT_SIZE]
    return name == LONG_NAME or is_name(name)


def is_right_kind(kind, is_long, long_target):
    """Return whether a header may have this kind behind such a long part."""
    # Behind one of kind L, the name already shows that no long part may follow.
    if kind not in SIZES or (kind in LONG_KINDS) != is_long:
        return False
    return long_target == "" or kind in BEHIND_LONG_TARGETS


def is_right_target(heading, long_target):
    """Return whether a header of this kind may have this target."""
    if heading.kind not in TARGET_KINDS:
        return heading.target == ""
    if long_target != "":
        return heading.target == long_target[:TEXT_SIZE]
    return is_name(heading.target)
