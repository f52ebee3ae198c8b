"""Roots: which root of a disk counts, and where the blocks of a store lie."""

from edgesaway.errors import NoStore

ROOT_PLACES = 2


def page_place(number, pages, at):
    """The number of the block of a page, by the number of its root; each half has so many pages."""
    return ROOT_PLACES + number % 2 * pages + at


def log_place(pages, at):
    """The number of a log block, counted from the first one."""
    return ROOT_PLACES + 2 * pages + at


def places_needed(pages, logs):
    """How many blocks a store takes."""
    return log_place(pages, logs)


def newest_root(disk):
    """The root with the greatest number."""
    blocks = [disk.read(at) for at in range(min(ROOT_PLACES, disk.size))]
    roots = [block for block in blocks if block is not None and block[0] == "root"]
    if not roots:
        raise NoStore()
    # The numbers of both differ, as each one tells in which block its root lies.
    return max(roots)
