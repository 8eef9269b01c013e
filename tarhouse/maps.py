"""Maps, which tell where the pieces of a sparse file belong."""

from tarhouse.blocks import padded


def map_block(size, spans):
    """Return the map of a sparse file with these offsets and lengths of pieces."""
    numbers = [size, len(spans)]
    for offset, length in spans:
        numbers.append(offset)
        numbers.append(length)
    text = "".join([f"{number}\n" for number in numbers])
    return padded(text.encode("ascii"))
