"""A simulated disk [15.1] and what a crash leaves of it [15.2]."""

from forkhaul.errors import BadCommand, BadName, Crash, NoObject
from forkhaul.words import ascending, is_count, is_limit


class Disk:
    """Files by their names. A file is a tuple: its content, its last safe content or None, whether it is unsafe."""

    def __init__(self, *, left=None):
        self._files = {}
        self._steps_left = _checked_left(left)

    @property
    def left(self):
        return self._steps_left

    def limit(self, left):
        """Set the number of steps that are still carried out."""
        self._steps_left = _checked_left(left)

    def write(self, name, data):
        """Replace or make a file."""
        _check_name(name)
        if not isinstance(data, bytes):
            raise BadName("the content of a file is bytes")
        self._count_step()
        safe = self._files[name][1] if name in self._files else None
        self._files[name] = (data, safe, True)

    def sync(self, name):
        """Make the content of a file safe."""
        self._check_is_there(name)
        self._count_step()
        content = self._files[name][0]
        self._files[name] = (content, content, False)

    def rename(self, old, new):
        """Replace a file by another one, which loses its old name."""
        _check_name(new)
        self._check_is_there(old)
        self._count_step()
        self._files[new] = self._files.pop(old)

    def remove(self, name):
        """Remove a file."""
        self._check_is_there(name)
        self._count_step()
        del self._files[name]

    def read(self, name):
        """Return the content of a file."""
        self._check_is_there(name)
        return self._files[name][0]

    def names(self):
        """Return the names of all files, ascending."""
        return ascending(self._files)

    def crashed(self, mask):
        """Return the disk behind a crash; the mask tells what becomes of the contents that were not safe."""
        if not is_count(mask):
            raise BadCommand("a mask is a whole number of at least 0")
        other = Disk()
        for name in self.names():
            content, safe, is_unsafe = self._files[name]
            if is_unsafe:
                outcomes = (safe, content[:len(content) // 2], content)
                content = outcomes[int(mask) % 3]
                mask = mask // 3
            if content is not None:
                other._files[name] = (content, content, False)
        return other

    def _check_is_there(self, name):
        _check_name(name)
        if name not in self._files:
            raise NoObject(name)

    def _count_step(self):
        if self._steps_left == 0:
            raise Crash("the disk carries out no more steps")
        if self._steps_left is not None:
            self._steps_left -= 1


def _check_name(name):
    if not isinstance(name, str):
        raise BadName("the name of a file is a text")


def _checked_left(left):
    if not is_limit(left):
        raise BadCommand("the steps that are left are None or a whole number of at least 0")
    return left
