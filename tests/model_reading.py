"""Points [8] and [9], written down once more: what reading has to give.

It goes another way than the program: a member is right if its blocks are those
that the samples give for it; expressions find the field that is wrong.
"""

import re

from samples import CHARACTERS, LONG, packed
from tarhouse.members import Directory, File, Link, Symlink, is_name

NAME = rb"[a-z0-9._/-]"
KINDS = {word.encode(): kind for kind, word in CHARACTERS.items()}
BOUNDS = {b"0": (0, 4096), b"S": (512, 4608), b"K": (102, 251), b"L": (102, 251)}


def is_padded(pattern, data):
    """Whether data are what a pattern takes, and zero bytes."""
    found = re.match(pattern, data)
    return found is not None and not data[found.end():].strip(b"\x00")


def header_fault(block, long_name, long_target):
    """The first field of a header that is wrong, or None."""
    name, kind, target = block[:100], block[156:157], block[157:257]
    is_long = name == LONG.encode().ljust(100, b"\x00")
    if long_name is not None:
        right = name.decode("latin-1") == long_name[:100]
    else:
        right = is_long or is_padded(NAME + rb"{1,100}", name)
    if not right:
        return "name"
    zero = rb"0{7}\x00"
    patterns = [
        ("mode", block[100:108], zero if is_long else rb"000[0-7]{4}\x00"), ("owner", block[108:116], zero),
        ("group", block[116:124], zero), ("size", block[124:136], rb"[0-7]{11}\x00"),
        ("time", block[136:148], rb"0{11}\x00" if is_long else rb"[0-7]{11}\x00"),
    ]
    for field, data, pattern in patterns:
        if not re.fullmatch(pattern, data):
            return field
    if kind not in ([b"K", b"L"] if is_long else [b"0", b"S", b"5", b"2", b"1"]):
        return "kind"
    if long_target is not None and kind not in (b"L", b"1", b"2"):
        return "kind"
    if kind not in (b"1", b"2"):
        right = target == bytes(100)
    elif long_target is not None:
        right = target.decode("latin-1") == long_target[:100]
    else:
        right = is_padded(NAME + rb"{1,100}", target)
    if not right:
        return "target"
    if block[257:265] != b"ustar\x0000":
        return "magic"
    if block[265:] != bytes(247):
        return "rest"
    if block[148:156] != b"%06o\x00 " % (sum(block) - sum(block[148:156]) + 256):
        return "checksum"
    low, high = BOUNDS.get(kind, (0, 0))
    return None if low <= int(block[124:135], 8) <= high else "size"


def sparse_fault(stored, blocks):
    """Whether a map or its padding is wrong; also the size and the pieces."""
    found = re.fullmatch(rb"((?:(?:0|[1-9][0-9]*)\n)+)\x00*", blocks[:512])
    numbers = [int(number) for number in found[1].split()] if found else []
    if len(numbers) < 2 or numbers[1] * 2 + 2 != len(numbers):
        return "map", None
    pieces, at = [], 512
    for place in range(2, len(numbers), 2):
        pieces.append((numbers[place], blocks[at:at + min(numbers[place + 1], 5000)]))
        if len(pieces[-1][1]) != numbers[place + 1] and at + numbers[place + 1] <= stored:
            return "short", None
        at += numbers[place + 1]
    spans = list(zip(numbers[2::2], numbers[3::2]))
    fits = all(length > 0 and start + length <= numbers[0] for start, length in spans)
    apart = all(one[0] + one[1] < other[0] for one, other in zip(spans, spans[1:]))
    if numbers[0] > 4096 or len(spans) > 50 or not fits or not apart or at != stored:
        return "map", None
    return None, (numbers[0], pieces)


def member_at(data, offset):
    """What begins at an offset: `(None, end, member)`, or a trouble in the first place."""
    long_name = long_target = None
    at = offset
    while True:
        block = data[at:at + 512]
        if len(block) < 512:
            return ("torn", offset), None, None
        if block == bytes(512) and long_name is None and long_target is None:
            following = data[at + 512:at + 1024]
            if len(following) < 512:
                return ("torn", offset), None, None
            return (("wrong", at, "end") if following.strip(b"\x00") else "end"), None, None
        fault = header_fault(block, long_name, long_target)
        if fault is not None:
            return ("wrong", at, fault), None, None
        kind, size = block[156:157], int(block[124:135], 8)
        blocks = data[at + 512:at + 512 + (size + 511) // 512 * 512]
        whole = len(blocks) == (size + 511) // 512 * 512
        if kind in b"KL":
            text = blocks[:size - 1]
            if whole and (not re.fullmatch(NAME + rb"+", text) or blocks[size - 1:].strip(b"\x00")):
                return ("wrong", at, "text"), None, None
            if not whole:
                return ("torn", offset), None, None
            if kind == b"K":
                long_target = text.decode()
            else:
                long_name = text.decode()
            at += 1024
            continue
        more = None
        if kind == b"S" and len(blocks) >= 512:
            fault, more = sparse_fault(size, blocks)
            if fault == "map":
                return ("wrong", at, fault), None, None
        if not whole:
            return ("torn", offset), None, None
        if blocks[size:].strip(b"\x00"):
            return ("wrong", at, "padding"), None, None
        name = long_name or block[:100].rstrip(b"\x00").decode()
        target = long_target or block[157:257].rstrip(b"\x00").decode()
        given = {"mode": int(block[100:107], 8), "time": int(block[136:147], 8)}
        first = {File: [blocks[:size]], Symlink: [target], Link: [target], Directory: []}.get(KINDS[kind])
        if first is None:
            first = [more[0], *more[1]]
        member = KINDS[kind](name, *first, **given)
        end = at + 512 + len(blocks)
        assert packed(member) == data[offset:end] and is_name(name)
        return None, end, member


def scanned(data, offset=0):
    """What `scan` has to give."""
    found = []
    while True:
        trouble, end, member = member_at(data, offset)
        if trouble is not None:
            return found, None if trouble == "end" else trouble
        found.append((offset, member))
        offset = end
