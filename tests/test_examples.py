"""All examples of the document, which stand in examples.txt as they stand there."""

import importlib
import pathlib
import unittest

from tests.helper import Case, error_of

MODULES = (
    "errors", "base.ratios", "base.tables", "base.parity", "square.sums", "square.levels", "form.signs", "form.formulas",
    "form.radon", "double.doubled", "double.eights", "times.handed", "times.areas", "fold.folded", "colour.colours",
    "colour.bars", "word.words", "word.worlds", "whole.eights", "text.formats", "desk.designs", "desk.desk",
)
KEPT = {
    "ParseError": "spot", "InvalidNumber": "given", "UnknownName": "wanted", "TooMany": "most", "Refused": "reason",
    "NothingToUndo": "steps",
}


def all_names():
    """The names of all modules, as the examples use them."""
    names = {}
    for module in MODULES:
        names.update(vars(importlib.import_module("squaretimes." + module)))
    return names


def examples():
    """The parts of the file: lists of pairs of a line and of what is told below it, None for nothing."""
    text = pathlib.Path(__file__).with_name("examples.txt").read_text(encoding="utf-8")
    for part in text.strip().split("\n\n"):
        lines = part.split("\n")[1:]
        pairs = []
        for at, line in enumerate(lines):
            if line.startswith(">>> "):
                below = lines[at + 1] if at + 1 < len(lines) else ">>> "
                pairs.append((line[4:], None if below.startswith(">>> ") else below))
        yield pairs


class Examples(Case, unittest.TestCase):
    def test_all(self):
        names = all_names()
        parts = list(examples())
        self.assertEqual([len(parts), sum(map(len, parts))], [16, 109])
        (algebras, _), = parts[0]
        exec(algebras, names)
        for pairs in parts[1:]:
            own = dict(names)
            for line, told in pairs:
                with self.subTest(line=line):
                    self.judge(own, line, told)

    def judge(self, names, line, told):
        if told is None:
            exec(line, names)
        elif told.startswith("raises "):
            kind, _, rest = told.removeprefix("raises ").partition("(")
            error = error_of(eval, line, names)
            self.assertIs(type(error), names[kind])
            if rest:
                self.assert_same(getattr(error, KEPT[kind]), eval("(" + rest, names))
        else:
            self.assertEqual(repr(eval(line, names)), told)


if __name__ == "__main__":
    unittest.main()
