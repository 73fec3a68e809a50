"""Words [1.2]: which texts are ids, paths, references, authors and texts, and which numbers are times."""

HEX_DIGITS = "0123456789abcdef"
LETTERS = "abcdefghijklmnopqrstuvwxyz"
REF_SIGNS = "abcdefghijklmnopqrstuvwxyz0123456789-"
SEGMENT_SIGNS = "abcdefghijklmnopqrstuvwxyz0123456789._-"
LONGEST_WORD = 12
LONGEST_TEXT = 2000
LONGEST_MESSAGE = 200
LATEST = 10 ** 12


def is_id(thing):
    """Return whether it is 16 hexadecimal digits."""
    return isinstance(thing, str) and len(thing) == 16 and thing.strip(HEX_DIGITS) == ""


def is_figures(text):
    """Return whether a text has hexadecimal digits alone."""
    return text.strip(HEX_DIGITS) == ""


def is_id_or_none(thing):
    """Return whether it is an id or None."""
    return thing is None or is_id(thing)


def is_path(thing):
    """Return whether it is one to six segments of a path, joined by slashes."""
    if not isinstance(thing, str):
        return False
    segments = thing.split("/")
    return len(segments) <= 6 and all([is_segment(segment) for segment in segments])


def is_segment(thing):
    """Return whether it is one segment of a path."""
    return _is_word(thing, SEGMENT_SIGNS) and thing != "." and ".." not in thing


def is_ref(thing):
    """Return whether it is the name of a reference; those of other repositories, below `far`, are longer."""
    if not isinstance(thing, str):
        return False
    segments = thing.split("/")
    most = 7 if segments[0] == "far" else 5
    return len(segments) <= most and all([_is_word(segment, REF_SIGNS) for segment in segments])


def is_short_ref(thing):
    """Return whether it is a reference of one segment."""
    return _is_word(thing, REF_SIGNS)


def is_author(thing):
    """Return whether it is 1 to 12 small letters."""
    return _is_word(thing, LETTERS)


def is_text(thing):
    """Return whether it is the text of a file: at most 2,000 signs from the blank to `~` and line feeds."""
    if not isinstance(thing, str) or len(thing) > LONGEST_TEXT:
        return False
    return thing.isascii() and thing.replace("\n", "").isprintable()


def is_message(thing):
    """Return whether it is a text that is short enough for a message."""
    return is_text(thing) and len(thing) <= LONGEST_MESSAGE


def is_time(thing):
    """Return whether it is a whole number from 0 to 10**12."""
    return is_count(thing) and thing <= LATEST


def is_count(thing):
    """Return whether it is a whole number of at least 0."""
    return isinstance(thing, int) and not isinstance(thing, bool) and thing >= 0


def is_limit(thing):
    """Return whether it is None or a whole number of at least 0."""
    return thing is None or is_count(thing)


def are_ids(thing):
    """Return whether it is a tuple of ids."""
    return isinstance(thing, tuple) and all([is_id(name) for name in thing])


def ascending(names):
    """Return the tuple of these texts in ascending order."""
    return tuple(sorted([str(name) for name in names]))


def prefixes(path):
    """Return the proper prefixes of a path or a reference, by segments."""
    segments = path.split("/")
    return ["/".join(segments[:many]) for many in range(1, len(segments))]


def have_prefixes(paths):
    """Return whether one of the keys of this dict is a proper prefix of another one, by segments."""
    return any([prefix in paths for path in paths for prefix in prefixes(path)])


def _is_word(thing, signs):
    # What is left when the allowed signs are stripped off begins with another one.
    return isinstance(thing, str) and 1 <= len(thing) <= LONGEST_WORD and thing.strip(signs) == ""
