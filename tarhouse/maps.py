"""Maps, which tell where the pieces of a sparse file belong."""

from tarhouse.blocks import BLOCK_SIZE, padded
from tarhouse.members import are_spans, is_size

MAP_BYTES = b"0123456789\n"


def map_block(size, spans):
    """Return the map of a sparse file with these offsets and lengths of pieces."""
    numbers = [size, len(spans)]
    for offset, length in spans:
        numbers.append(offset)
        numbers.append(length)
    text = "".join([f"{number}\n" for number in numbers])
    return padded(text.encode("ascii"))


def read_map(block, stored):
    """Return the size and the spans that a map tells.

    The result is None if the block is no map of a sparse file with this
    number of stored bytes.
    """
    text = block.rstrip(b"\x00")
    if not all([byte in MAP_BYTES for byte in text]):
        return None
    # What stands behind the last line feed is no number of a map.
    lines = text.decode("ascii").split("\n")[:-1]
    if len(lines) == 0 or not all([line.isdigit() for line in lines]):
        return None
    numbers = [int(line) for line in lines]
    size = numbers[0]
    spans = [(numbers[at], numbers[at + 1]) for at in range(2, len(numbers) - 1, 2)]
    if not is_size(size) or not are_spans(size, spans):
        return None
    # Leading zeros, a wrong number of pieces or one number more show here.
    if map_block(size, spans) != block or stored != BLOCK_SIZE + sum([length for offset, length in spans]):
        return None
    return size, spans
