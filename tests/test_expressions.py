"""[5.5] How expressions are read: what can be read, and the index of what cannot."""

import re
import unittest

from forkhaul.errors import BadExpression, NoObject, NoRef
from forkhaul.expressions import read_revision, read_terms
from forkhaul.refs import Refs
from forkhaul.revisions import View, commits_of, revision_of
from forkhaul.store import Store
from tests.helpers import Case, chance, odd_things

SEGMENT = "[a-z0-9-]{1,12}"
REF = f"(?:far(?:/{SEGMENT}){{0,6}}|{SEGMENT}(?:/{SEGMENT}){{0,4}})"
FILE = r"(?!\.(?:/|$| ))(?:(?!\.\.)[a-z0-9._-]){1,12}"
ATOM = rf"(?:(?:HEAD|{REF})?@\{{[0-9]{{1,4}}\}}|HEAD|@|[0-9a-f]{{4,16}}|{REF})"
OPEN = ATOM + r"(?:~[0-9]{0,4}|\^\{commit\}|\^\{tree\}|\^[0-9]{0,4})*"
REVISION = rf"(?::/[^ ]+|{OPEN}(?::{FILE}(?:/{FILE}){{0,5}})?)"
TERM = rf"(?:\^?{REVISION}|{OPEN}\^[@!]|(?:{OPEN})?\.\.\.?{REVISION}|{OPEN}\.\.\.?)"
SET = f" *{TERM}(?: +{TERM})* *"
ENDINGS = ("", "a", "1}", "}", "/a", " a")
WHOLES = ("HEAD", ":/", "@{", "^{commit}", "^{tree}", "^@", "^!", "...", "..")

# Texts, and the index at which each of them ends to be a revision.
NO_REVISIONS = (
    ("", 0), (" ", 0), (" main", 0), ("main ", 4), ("main x", 4), ("\nmain", 0), ("main\n", 4), ("Main", 0), ("mAin", 1),
    ("main!", 4), ("main{", 4), ("_", 0), ("main_x", 4), ("/", 0), ("/a", 0), ("a/", 2), ("a//b", 2), ("a/~", 2),
    ("a/b/c/d/e/f", 9), ("a/b/c/d/e/", 9), ("far/b/c/d/e/f/g/h", 15), ("far/b/c/d/e/f/", 14), ("fara/b/c/d/e/f", 12),
    ("abcdefghijklm", 12), ("a/abcdefghijklm", 14), ("abcdefabcdefg", 12), ("abcdefabcdefag", 13),
    ("0123456789abcdef0", 16), ("0123456789abc/x", 13), ("0123456789abc@{1}", 13), ("0123456789abcdef@{1}", 16),
    ("0123456789ab/", 13), ("0123456789abc-", 13),
    ("H", 0), ("HEA", 0), ("HEAx", 0), ("HEADx", 4), ("HEAD/x", 4), ("HEADHEAD", 4), ("x/HEAD", 2), ("head/HEAD", 5),
    ("@x", 1), ("@@", 1), ("@HEAD", 1), ("@@{1}", 1), ("@{", 2), ("@{}", 2), ("@{x}", 2), ("@{1", 3), ("@{1x}", 3),
    ("@{12345}", 6), ("@{00001}", 6), ("@{-1}", 2), ("@{ 1}", 2), ("@{1}x", 4), ("@{1}@{1}", 4), ("@{1}{", 4),
    ("main@", 4), ("main@x", 4), ("main@{", 6), ("main@{}", 6), ("main@{12", 8), ("main@{12345", 10), ("main@@{1}", 4),
    ("HEAD@", 4), ("HEAD@{", 6), ("HEAD@{x", 6), ("main~1@{1}", 6), ("main^@{1}", 4), ("a/@{1}", 2),
    (":", 0), (":a", 0), (":/", 2), (":/ ", 2), (":/ x", 2), (":/fix it", 5), ("main:", 5), ("main: ", 5), ("main:/x", 5),
    ("main:/", 5), ("main:A", 5), ("main:a/A", 5), ("main:a//b", 5), ("main:a/", 5), ("main:.", 5), ("main:a..b", 5),
    ("main:a/b/c/d/e/f/g", 5), ("main:abcdefghijklm", 5), ("main:a:b", 5), ("main:a~", 5), ("main:a^{tree}", 5),
    ("main:a b", 6), ("main:a ", 6), ("main:A ^", 5), ("main~1:", 7), ("main^{tree}:", 12), ("@:", 2), ("HEAD:\n", 5),
    ("main~12345", 9), ("main~00000", 9), ("main^12345", 9), ("main~1x", 6), ("main~x", 5), ("main~-1", 5),
    ("main^x", 5), ("main^{", 5), ("main^{}", 5), ("main^{tre}", 5), ("main^{tree", 5), ("main^{Tree}", 5),
    ("main^{tree}x", 11), ("main^{blob}", 5), ("main^{commit", 5), ("main^^{", 6), ("main^1{tree}", 6),
    ("main^{tree}1", 11), ("main~{1}", 5), ("main~^{", 6),
    ("^main", 0), ("^", 0), ("^^", 0), ("~", 0), ("~1", 0), ("^{tree}", 0), ("^{commit}", 0), ("^@", 0), ("^!", 0),
    ("main^@", 4), ("main^!", 4), ("main~^@", 5), ("main^^!", 5), ("main..", 4), ("main...", 4), ("main..x", 4),
    ("..", 0), ("..main", 0), ("...", 0), (".", 0), ("main.", 4), ("main.x", 4), ("main~.", 5), ("!", 0), ("{", 0),
    ("}", 0), ("main}", 4), ("main#", 4),
)

# Texts, and the index at which each of them ends to be a set.
NO_SETS = (
    ("", 0), (" ", 1), ("    ", 4), ("^", 1), ("^ main", 1), ("main ^", 6), ("main ^ x", 6), ("^^main", 1), ("^^", 1),
    ("^^@", 1), ("^^{tree}", 1), ("^~", 1), ("^..main", 1), ("^...", 1), ("^:a", 1), ("^:/", 3), ("^:/ ", 3),
    ("^main..x", 5), ("^main...x", 5), ("^main..", 5), ("^main^@", 5), ("^main^!", 5), ("^@^!", 2), ("^@^@", 2),
    ("main ^@^!", 7), ("^^@^!", 1), ("x ^main~2^!", 9), ("^@{1}^@", 5),
    ("..", 2), ("...", 3), (".. ", 2), (".. main", 2), ("main ..", 7), ("main .. x", 7), ("... main", 3), ("....", 3),
    (".", 0), ("main.", 4), ("main. x", 4), ("main.x", 4), ("main....", 7), ("main....x", 7), (".main", 0),
    ("a..b..c", 4), ("a..b...c", 4), ("a...b..", 5), ("..a..", 3), ("a..^b", 3), ("a..^@", 3), ("a...^", 4), ("a..~", 3),
    ("a..b^@", 4), ("a..b^!", 4), ("a...b~^!", 6), ("..b^@", 3), ("a..:", 3), ("a..:b", 3), ("a..B", 3), ("a..b/", 5),
    ("a^@..b", 3), ("a^!..b", 3), ("a^@...", 3), ("a^@^@", 3), ("a^!^!", 3), ("a^@^!", 3), ("a^@x", 3), ("a^@~", 3),
    ("a^!:b", 3), ("a^@{1}", 3), ("a^@ b^!x", 7), ("a^@1", 3), ("a^!~1", 3), ("a^@@", 3),
    ("a:b..c", 2), ("a:b^@", 2), ("a:b^!", 2), ("a:..b", 2), ("a:", 2), ("a: b", 2), ("a b: c", 4), ("a:B c", 2),
    ("a :b", 2), ("a ~", 2), ("a {", 2), ("a @{", 4), ("a @{x", 4), ("a H", 2), ("a b H", 4), ("a\nb", 1), ("a \nb", 2),
    ("a ^b ^^c", 6), ("a ^b..c", 4), ("  A", 2), ("a  A", 3), ("a^{", 2), ("a ^b^{x}", 5), ("a~12345 b", 6),
    ("main ^{tree}", 6), ("main ^{commit}", 6), ("^{tree}", 1), ("^@@", 2), ("^!", 1), ("a ^!", 3), ("a^?", 2),
)

REVISIONS = (
    "main", "HEAD", "@", "-", "far", "a/b/c/d/e", "far/b/c/d/e/f/g", "abcdefghijkl", "0123", "0123456789abcdef",
    "0123456789abc", "@{0}", "@{0000}", "HEAD@{9999}", "main@{12}", "a/b@{1}", "abc@{1}", "0123456789ab@{1}", ":/x",
    ":/x..y^{tree}:~", ":/\n", "://", "main~", "main~0", "main~9999", "main~0001", "main^", "main^^^", "main^0~2^3",
    "main^{commit}^{tree}", "main^{tree}^{commit}~1^{tree}", "main:a", "main:a/b.c/_/-/e/f", "main~:a", "@:a", "@~", "@^",
    "@{1}~:a", "HEAD^{tree}:a",
)

SETS = (
    "  main", "main  ", " a  b ", "^a", "^@", "^HEAD", "^:/x", "^a:b", "^@{1}", "^@~", "^a^", "a ^a", "a..b",
    "a...b", "a..", "a...", "..b", "...b", "a.. b", "a ..b", "a..@", "@..a", "@..@", "a..@{1}", "@{1}...b", "a..:/b",
    "a..b:c", "a^..b^", "a^^{tree}..b~2", "a^@", "a^!", "@^@", "@^!", "a~2^@", "a^^!", "a^^@", "a^{tree}^!", "a^@ b^!",
    ":/x y", ":/a..b c", "a:b c:d", "HEAD..HEAD", "a^{commit}...",
)


class Reading(Case):
    def setUp(self):
        self.view = View(Store(), Refs())

    def test_no_revisions(self):
        for text, at in NO_REVISIONS:
            self.assert_error(BadExpression, revision_of, self.view, text, at=at)

    def test_no_sets(self):
        for text, at in NO_SETS:
            self.assert_error(BadExpression, commits_of, self.view, text, at=at)

    def test_what_is_no_revision_in_a_set(self):
        for text, at in NO_REVISIONS:
            if not re.search(r"[\s.]|\^[@!]|^\^|^$", text):
                self.assert_error(BadExpression, commits_of, self.view, text, at=at)
                self.assert_error(BadExpression, commits_of, self.view, "  x ^" + text, at=at + 5)
                self.assert_error(BadExpression, commits_of, self.view, ".." + text, at=at + 2)
                self.assert_error(BadExpression, commits_of, self.view, "a^@ HEAD..." + text, at=at + 11)

    def test_revisions(self):
        for text in REVISIONS:
            read_revision(text)
            self.assertEqual(len(read_terms(f" {text}  {text} ")), 2)
            self.assertEqual(read_terms(f"^{text}")[0][0], "^")
            self.assertEqual(read_terms(f"a..{text}")[0][0], "..")

    def test_sets(self):
        for text in SETS:
            self.assertEqual(len(read_terms(f"{text} {text}")), 2 * len(text.split()))

    def test_what_is_no_text(self):
        long = "a " * 100 + "b"
        for ask in (revision_of, commits_of):
            for thing in [*odd_things(), long, "\u00e9" + "main", "main\u00e9", "main\t", "main\x7f", b"main", ["main"]]:
                if thing not in ("", " ", "\n", "A", "a b", "/", ".."):
                    self.assert_error(BadExpression, ask, self.view, thing, at=0)
            self.assert_error(BadExpression, ask, self.view, "~" * 201, at=0)
            self.assert_error(BadExpression, ask, self.view, "main" + "~" * 197, at=0)
            self.assert_error(NoRef, ask, self.view, "main" + "~" * 196, name="main")

    def test_the_last_character_of_long_texts(self):
        self.assert_error(BadExpression, commits_of, self.view, "a " * 99 + "a.", at=199)
        self.assert_error(BadExpression, revision_of, self.view, "a" + "~" * 198 + "!", at=199)

    def test_the_values_of_what_is_read(self):
        self.assertEqual(read_revision("main@{012}~^2^{tree}:a/b"), (
            0, ("back", ("main", 12)), [("~", 10, 1), ("^", 11, 2), ("tree", 13, None), (":", 20, "a/b")]))
        self.assertEqual(read_terms(" ..b ^:/c"), [
            ("..", [(1, ("name", "HEAD"), []), (3, ("name", "b"), [])]), ("^", [(6, ("word", "c"), [])])])
        self.assertEqual(read_terms("a...  @~^!"), [
            ("...", [(0, ("name", "a"), []), (4, ("name", "HEAD"), [])]), ("^!", [(6, ("name", "HEAD"), [("~", 7, 1)])])])


class Chance(Case):
    """Texts that are tossed together, against patterns that say the grammar again."""

    PARTS = ("HEAD", "@", "@{", "@{1}", "}", "main", "a", "0123", "0123456789abc", "far/", "/", "~", "^", "^{tree}",
             "^{commit}", "^@", "^!", "..", "...", ".", ":", ":/", "1", "12345", " ", "{", "A", "b/c", "^{", "\n")

    def texts(self):
        numbers = chance(5)
        for _ in range(6000):
            yield "".join([self.PARTS[next(numbers) % len(self.PARTS)] for _ in range(1 + next(numbers) % 6)])

    def error_of(self, read, text):
        try:
            read(text)
        except BadExpression as error:
            return error.at
        return None

    def test_what_can_be_read(self):
        for text in self.texts():
            for read, pattern in ((read_revision, REVISION), (read_terms, SET)):
                readable = re.fullmatch(pattern, text) is not None
                self.assertEqual(self.error_of(read, text) is None, readable, (read, text))

    def test_the_index_of_what_cannot(self):
        for text in self.texts():
            for read, pattern in ((read_revision, REVISION), (read_terms, SET)):
                at = self.error_of(read, text)
                if at is not None:
                    self.assertTrue(self.goes_on(pattern, text[:at]), (read, text, at))
                    self.check_end(pattern, text, at)

    def goes_on(self, pattern, text):
        """Return whether this is the beginning of what can be read."""
        return any([re.fullmatch(pattern, text + ending) for ending in ENDINGS])

    def check_end(self, pattern, text, at):
        whole = [word for word in WHOLES if text.startswith(word, at)]
        path = re.search(":[^ ]*$", text[:at])
        if at < len(text) and not path and (whole or text[at] != ":"):
            longer = text[:at] + (whole[0] if whole else text[at])
            self.assertFalse(self.goes_on(pattern, longer), (pattern, text, at))


if __name__ == "__main__":
    unittest.main()
