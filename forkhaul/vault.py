"""What a repository has on its disk [15.3], in such a way that a crash at any step loses nothing of it [15.5].

Each object has a file with its canonical bytes. Its name tells the id, the tick, from how many saves on the file
counts, and the length. So one object gets a new tick by one rename, and goes by one removal; half of a file is known
by its length; and what a command has brought counts from its save on, or never. All the rest is one file, which is
written under another name, and takes the place of the old one by a rename when it is safe: that is the save.
"""

from forkhaul.codes import decode, encode
from forkhaul.errors import Clash, NoObject
from forkhaul.saved import LogTexts, nothing_saved, read_saved
from forkhaul.store import Store
from forkhaul.words import ascending

SAVED = "saved"
NEXT_SAVED = "saved.next"


class Vault:
    """The objects of a repository, on its disk and as a store, and what is saved beside them.

    Its `version` is another number after each change.
    """

    def __init__(self, disk):
        self._disk = disk
        self._texts = LogTexts()
        self._tails = {}
        self._outdated = []
        self.shelf = Store()
        self.ticks = {}
        self.version = 0
        names = disk.names()
        saved = read_saved(disk.read(SAVED)) if SAVED in names else nothing_saved()
        self._saves, self.refs_state, self.cut, self.holding = saved
        for file in names:
            if file != SAVED and not self._load(file):
                disk.remove(file)

    def keep(self, name, thing, now):
        """Write an object, or give it a new tick if it is there."""
        if name not in self.ticks:
            self._write(name, thing, now, self._saves)
            return
        if self.shelf[name] != thing:
            raise Clash(name)
        if self.ticks[name] != now:
            self._disk.rename(self._file_of(name), f"{name} {now} {self._tails[name]}")
            self.ticks[name] = now
            self.version += 1

    def bring(self, things, now):
        """Write objects anew, parts first, which count, with their ticks, once the next save is done."""
        for name in things:
            if name in self.ticks and self.ticks[name] == now:
                continue
            if name in self.ticks:
                self._outdated.append(self._file_of(name))
            self._write(name, things[name], now, self._saves + 1)

    def check_present(self, names):
        """Raise NoObject with the least of these ids that is absent.

        What is there has its parts, but for those behind the cut: so nothing else that the ids reach can be absent.
        """
        absent = [name for name in names if name not in self.shelf]
        if absent:
            raise NoObject(ascending(absent)[0])

    def erase(self, name):
        """Remove an object."""
        self._disk.remove(self._file_of(name))
        self.shelf.forget(name)
        del self.ticks[name]
        del self._tails[name]
        self.version += 1

    def save(self, refs_state, cut, holding):
        """Save all that is kept beside the objects, at once."""
        saves = self._saves + 1
        self._disk.write(NEXT_SAVED, self._texts.bytes_of((saves, refs_state, cut, holding)))
        self._disk.sync(NEXT_SAVED)
        self._disk.rename(NEXT_SAVED, SAVED)
        self._saves = saves
        self.refs_state, self.cut, self.holding = refs_state, cut, holding
        self.version += 1
        for file in self._outdated:
            self._disk.remove(file)
        self._outdated = []

    def _load(self, file):
        """Take an object from its file, and return whether it is the one that counts."""
        words = file.split(" ")
        if len(words) != 4:
            return False
        name, tick, saves, length = words
        data = self._disk.read(file)
        if int(saves) > self._saves or len(data) != int(length):
            return False
        if name in self.ticks:
            known = self._tails[name].split(" ")[0]
            if int(saves) < int(known):
                return False
            self._disk.remove(self._file_of(name))
        self._take_in(name, decode(data), int(tick), f"{saves} {length}")
        return True

    def _write(self, name, thing, now, saves):
        data = encode(thing)
        tail = f"{saves} {len(data)}"
        file = f"{name} {now} {tail}"
        self._disk.write(file, data)
        self._disk.sync(file)
        self._take_in(name, thing, now, tail)

    def _take_in(self, name, thing, tick, tail):
        self.shelf.put_known({name: thing})
        self.ticks[name] = tick
        self._tails[name] = tail
        self.version += 1

    def _file_of(self, name):
        return f"{name} {self.ticks[name]} {self._tails[name]}"
