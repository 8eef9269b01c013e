"""Blocks, of which every archive consists."""

BLOCK_SIZE = 512


def padded(data):
    """Return data with zero bytes up to the end of a block."""
    return data + bytes(-len(data) % BLOCK_SIZE)
