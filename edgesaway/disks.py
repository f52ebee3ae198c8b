"""Disks: blocks whose writes wait for a sync, and which can be cut off at any write."""

from edgesaway.errors import BadPlace, CutOff


class Disk:
    """A disk of blocks; a block is a tuple, or None, which all blocks are at first."""

    def __init__(self, many):
        self._plates = [None for _ in range(many)]
        # What reads tell: the plates with all waiting writes done.
        self._told = list(self._plates)
        self._waiting = []
        self._reads = 0
        # The pair of what is left and the mask.
        self._fuse = None

    @classmethod
    def of(cls, blocks):
        """A disk on whose plates the blocks of a tuple lie."""
        disk = cls(len(blocks))
        disk._plates = list(blocks)
        disk._told = list(blocks)
        return disk

    @property
    def size(self):
        """The number of the blocks."""
        return len(self._plates)

    @property
    def plates(self):
        """The tuple of the blocks on the plates."""
        return tuple(self._plates)

    @property
    def waiting(self):
        """The number of the waiting writes."""
        return len(self._waiting)

    @property
    def reads(self):
        """The number of the reads so far."""
        return self._reads

    @property
    def fuse(self):
        """How many writes and syncs are still done, None without a fuse."""
        return None if self._fuse is None else self._fuse[0]

    def read(self, at):
        """A block as it was written last."""
        self._check_place(at)
        self._reads += 1
        return self._told[at]

    def write(self, at, block):
        """Let the write of a block wait behind those that wait already."""
        self._check_place(at)
        self._burn()
        self._waiting.append((at, block))
        self._told[at] = block

    def sync(self):
        """Bring all waiting writes onto the plates, in order."""
        self._burn()
        self._plates = list(self._told)
        self._waiting = []

    def cut(self, mask):
        """Bring those waiting writes onto the plates whose bits the mask has, in order; the others are lost."""
        for number, (at, block) in enumerate(self._waiting):
            if (mask >> number) & 1 == 1:
                self._plates[at] = block
        self._told = list(self._plates)
        self._waiting = []

    def set_fuse(self, many, mask):
        """Let so many writes and syncs be done; at the next one the disk is cut off with the mask."""
        self._fuse = (many, mask)

    def _check_place(self, at):
        """Raise an error if no block has a number."""
        if not 0 <= at < len(self._plates):
            raise BadPlace(at)

    def _burn(self):
        """Use up one write or sync of the fuse, if there is one."""
        if self._fuse is None:
            return
        left, mask = self._fuse
        if left > 0:
            self._fuse = (left - 1, mask)
            return
        self._fuse = None
        self.cut(mask)
        raise CutOff()
