"""The reading of expressions [5.2] to [5.5]: plain tuples, made without a look at what they name.

A revision is a tuple (at, atom, suffixes): the index at which it begins, a tuple (kind, worth), and a list of
tuples (kind, at, worth). A term is a tuple of its form and the list of its revisions; the forms are "", "^", "..",
"...", "^@" and "^!". A function `.._at` returns what begins at an index and the index behind it.
"""

from forkhaul.errors import BadExpression
from forkhaul.words import is_figures, is_path, is_ref, is_text

LONGEST_EXPRESSION = 200
MOST_DIGITS = 4
FEWEST_FIGURES = 4
MOST_FIGURES = 16


def read_revision(text):
    """Return the only revision of a text."""
    _check_text(text)
    revision, end = _revision_at(text, 0)
    if end < len(text):
        raise BadExpression(end)
    return revision


def read_terms(text):
    """Return the list of the terms of a set."""
    _check_text(text)
    terms = []
    at = _behind_blanks(text, 0)
    while at < len(text) or not terms:
        term, end = _term_at(text, at)
        if not _ends_at(text, end):
            raise BadExpression(end)
        terms.append(term)
        at = _behind_blanks(text, end)
    return terms


def _check_text(text):
    if not is_text(text) or len(text) > LONGEST_EXPRESSION:
        raise BadExpression(0)


def _behind_blanks(text, at):
    while text.startswith(" ", at):
        at = at + 1
    return at


def _ends_at(text, at):
    """Return whether a term can end in front of this index."""
    return at == len(text) or text[at] == " "


def _term_at(text, at):
    if text.startswith("^", at):
        revision, end = _revision_at(text, at + 1)
        return ("^", [revision]), end
    dots = _dots_at(text, at)
    if dots != "":
        right, end = _revision_at(text, at + len(dots))
        return (dots, [_head_at(at), right]), end
    left, end = _revision_at(text, at)
    dots = _dots_at(text, end)
    if dots != "":
        right, end = _right_side_at(text, end + len(dots))
        return (dots, [left, right]), end
    for form in ("^@", "^!"):
        if text.startswith(form, end):
            return (form, [left]), end + len(form)
    return ("", [left]), end


def _dots_at(text, at):
    """Return the dots that stand at this index as a whole, or nothing."""
    for dots in ("...", ".."):
        if text.startswith(dots, at):
            return dots
    return ""


def _head_at(at):
    """Return the revision that an empty side of dots stands for."""
    return (at, ("name", "HEAD"), [])


def _right_side_at(text, at):
    if _ends_at(text, at):
        return _head_at(at), at
    return _revision_at(text, at)


def _revision_at(text, at):
    atom, end = _atom_at(text, at)
    suffixes = []
    while _has_suffix_at(text, end):
        suffix, end = _suffix_at(text, end)
        suffixes.append(suffix)
    return (at, atom, suffixes), end


def _atom_at(text, at):
    if text.startswith(":/", at):
        return _word_at(text, at + 2)
    if text.startswith("@{", at):
        return _back_at(text, "HEAD", at)
    if text.startswith("@", at):
        return ("name", "HEAD"), at + 1
    name = "HEAD" if text.startswith("HEAD", at) else _name_at(text, at)
    end = at + len(name)
    if text.startswith("@{", end) and (name == "HEAD" or is_ref(name)):
        return _back_at(text, name, end)
    return ("name", name), end


def _word_at(text, at):
    word = _rest_at(text, at)
    if word == "":
        raise BadExpression(at)
    return ("word", word), at + len(word)


def _rest_at(text, at):
    """Return what stands between this index and the next blank or the end."""
    return text[at:].split(" ")[0]


def _back_at(text, name, at):
    """Return the atom of this name that has its `@{N}` at this index."""
    digits = _digits_at(text, at + 2)
    end = at + 2 + len(digits)
    if digits == "" or not text.startswith("}", end):
        raise BadExpression(end)
    return ("back", (name, int(digits))), end + 1


def _digits_at(text, at):
    """Return the digits at this index, as many as a number may have."""
    end = at
    while end < len(text) and end - at < MOST_DIGITS and text[end].isdigit():
        end += 1
    return text[at:end]


def _name_at(text, at):
    """Return the reference, the id or the beginning of an id that stands at this index."""
    end = at
    while end < len(text) and _begins_name(text[at:end + 1]):
        end += 1
    name = text[at:end]
    if not is_ref(name) and not is_id_or_prefix(name):
        raise BadExpression(end)
    return name


def _begins_name(text):
    """Return whether something can follow, or nothing need follow, so that it is a name."""
    return is_ref(text) or is_ref(text + "a") or (is_figures(text) and len(text) <= MOST_FIGURES)


def is_id_or_prefix(name):
    """Return whether it is an id, or so many figures of one that it can stand for it."""
    return is_figures(name) and FEWEST_FIGURES <= len(name) <= MOST_FIGURES


def _has_suffix_at(text, at):
    # `^@` and `^!` end a term: they are wholes, and no suffixes of a revision.
    if text.startswith("^@", at) or text.startswith("^!", at):
        return False
    return at < len(text) and text[at] in "~^:"


def _suffix_at(text, at):
    if text.startswith(":", at):
        return _path_at(text, at)
    for word in ("commit", "tree"):
        whole = "^{" + word + "}"
        if text.startswith(whole, at):
            return (word, at, None), at + len(whole)
    digits = _digits_at(text, at + 1)
    number = 1 if digits == "" else int(digits)
    return (text[at], at, number), at + 1 + len(digits)


def _path_at(text, at):
    """Return the suffix of a path; what is no path cannot stand there from its first character on."""
    path = _rest_at(text, at + 1)
    if not is_path(path):
        raise BadExpression(at + 1)
    return (":", at, path), at + 1 + len(path)
