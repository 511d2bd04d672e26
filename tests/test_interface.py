"""The introduction of the interface, and what 00.1 bars from the whole program."""

import ast
import doctest
import importlib
import inspect
import pathlib
import unittest

ROOT = pathlib.Path(__file__).resolve().parent.parent
PACKAGE = ROOT / "dotfield"

FUNCTIONS = {
    "dotfield.gf": {
        "multiply": "(a, b)",
        "inverse": "(a)",
        "divide": "(a, b)",
        "power": "(n)",
        "logarithm": "(a)",
        "evaluate": "(polynomial, x)",
        "multiply_polynomials": "(first, second)",
    },
    "dotfield.reed": {
        "generator": "(count)",
        "check_words": "(data, count)",
        "is_codeword": "(words, count)",
        "correct": "(words, count)",
    },
    "dotfield.words": {
        "format_word": "(level, mask)",
        "nearest_format": "(first, second)",
        "version_word": "(version)",
        "version_agrees": "(version, first, second)",
        "distance": "(first, second)",
    },
    "dotfield.tables": {
        "count_bits": "(mode, version)",
        "check_count": "(version, level)",
        "total_words": "(version)",
        "block_sizes": "(version, level)",
        "data_words": "(version, level)",
        "alignment": "(version)",
    },
    "dotfield.segments": {
        "fits": "(mode, content)",
        "segment_bits": "(segment, version)",
        "best_segments": "(text, version)",
        "write_segments": "(writer, segments, version)",
        "read_segments": "(bits, version, at=0)",
    },
    "dotfield.layout": {
        "function_modules": "(version)",
        "fixed_modules": "(version)",
        "data_places": "(version)",
        "format_places": "(version)",
        "version_places": "(version)",
    },
    "dotfield.masks": {
        "flips": "(mask, row, column)",
        "apply_mask": "(grid, mask)",
        "penalty": "(grid)",
    },
    "dotfield.symbol": {
        "data_list": "(segments, version, level, header=None)",
        "word_list": "(data, version, level)",
        "draw": "(words, version, level, mask)",
        "encode": "(text, *, level='M', least=1, most=40, mask=None, header=None)",
        "encode_segments": "(segments, *, level='M', least=1, most=40, mask=None, header=None)",
    },
    "dotfield.reading": {
        "read_word": "(grid, places)",
        "read_words": "(grid, version, mask)",
        "distribute": "(words, version, level)",
        "read": "(grid)",
    },
    "dotfield.turning": {
        "turned": "(grid, quarters)",
        "mirrored": "(grid)",
        "turn_count": "(grid)",
        "find_turn": "(grid)",
        "read_turned": "(grid)",
    },
    "dotfield.pictures": {
        "paint": "(grid, *, scale=4, quiet=4, dark=0, light=255)",
        "scan": "(picture)",
    },
    "dotfield.sequence": {
        "parity": "(text)",
        "split": "(text, count)",
        "join": "(pairs)",
        "encode_message": "(text, count, *, level='M', least=1, most=40)",
        "read_message": "(grids)",
    },
}

CLASSES = {
    "dotfield.errors": {
        "DotfieldError": "(place)",
        "Truncated": "(place)",
        "InvalidMode": "(place)",
        "InvalidCount": "(place)",
        "TooLong": "(place)",
        "NotASymbol": "(place)",
        "InvalidVersion": "(place)",
        "InvalidFormat": "(place)",
        "TooDamaged": "(place)",
        "AmbiguousTurn": "(place)",
        "NotAPicture": "(place)",
        "InvalidSequence": "(place)",
    },
    "dotfield.bits": {
        "BitWriter": "()",
        "BitReader": "(bits, at=0)",
    },
    "dotfield.symbol": {
        "Symbol": "(version, level, mask, header, segments, grid)",
    },
    "dotfield.reading": {
        "Reading": "(version, level, mask, header, segments, text, changed)",
    },
}

METHODS = {
    ("dotfield.bits", "BitWriter"): {
        "write": "(self, width, value)",
        "bit_list": "(self)",
        "byte_list": "(self)",
        "bits_written": "(self)",
    },
    ("dotfield.bits", "BitReader"): {
        "read": "(self, width)",
        "left": "(self)",
        "at": "(self)",
    },
    ("dotfield.symbol", "Symbol"): {
        "__eq__": "(self, other)",
    },
    ("dotfield.reading", "Reading"): {
        "__eq__": "(self, other)",
    },
}


def files():
    return sorted(PACKAGE.rglob("*.py"))


def trees():
    return [(path, ast.parse(path.read_text(encoding="utf-8"))) for path in files()]


def definitions(module, kind):
    """The names that stand behind `def` or `class` at the top of a module's file."""
    tree = ast.parse(pathlib.Path(importlib.import_module(module).__file__).read_text(encoding="utf-8"))
    return {node.name: node for node in tree.body if isinstance(node, kind)}


class Interface(unittest.TestCase):

    def assert_defined(self, interface, kind):
        for module, signatures in interface.items():
            defined = definitions(module, kind)
            for name, signature in signatures.items():
                with self.subTest(module, name=name):
                    self.assertIn(name, defined)
                    found = getattr(importlib.import_module(module), name)
                    self.assertEqual(str(inspect.signature(found)), signature)

    def test_functions(self):
        self.assert_defined(FUNCTIONS, ast.FunctionDef)

    def test_classes(self):
        self.assert_defined(CLASSES, ast.ClassDef)

    def test_methods_stand_in_the_class_itself(self):
        for (module, name), signatures in METHODS.items():
            body = definitions(module, ast.ClassDef)[name].body
            defined = {node.name for node in body if isinstance(node, ast.FunctionDef)}
            for method, signature in signatures.items():
                with self.subTest(module, name=name, method=method):
                    self.assertIn(method, defined)
                    found = getattr(getattr(importlib.import_module(module), name), method)
                    self.assertEqual(str(inspect.signature(found)), signature)


class Package(unittest.TestCase):

    def test_only_modules_of_the_package_and_the_allowed_library_are_imported(self):
        allowed = ("heapq", "math", "itertools", "collections", "__future__")
        for path, tree in trees():
            for node in ast.walk(tree):
                with self.subTest(path.name):
                    self.assertNotIsInstance(node, ast.Import)
                    if isinstance(node, ast.ImportFrom):
                        self.assertEqual(node.level, 0)
                        self.assertTrue(
                            node.module.startswith("dotfield.") or node.module in allowed, node.module)

    def test_no_file_is_opened_and_nothing_is_read_or_printed(self):
        barred = {"open", "input", "print", "exec", "eval", "compile", "__import__", "globals"}
        for path, tree in trees():
            for node in ast.walk(tree):
                if isinstance(node, ast.Name):
                    with self.subTest(path.name, line=node.lineno):
                        self.assertNotIn(node.id, barred)

    def test_characters_and_sizes(self):
        for path in files():
            text = path.read_text(encoding="utf-8")
            with self.subTest(path.name):
                self.assertTrue(all(one == "\n" or " " <= one <= "~" for one in text))
                self.assertLessEqual(len(text.splitlines()), 399)
                self.assertLessEqual(max(len(line) for line in text.splitlines()), 120)

    def test_functions_have_at_most_40_lines(self):
        for path, tree in trees():
            for node in ast.walk(tree):
                if isinstance(node, ast.FunctionDef):
                    with self.subTest(path.name, name=node.name):
                        self.assertLessEqual(node.end_lineno - node.lineno + 1, 40)


class Readme(unittest.TestCase):

    def test_its_examples_are_true(self):
        text = (ROOT / "README.md").read_text(encoding="utf-8").replace("```", "")
        examples = doctest.DocTestParser().get_doctest(text, {}, "README.md", None, 0)
        self.assertTrue(examples.examples)
        self.assertEqual(doctest.DocTestRunner().run(examples).failed, 0)


if __name__ == "__main__":
    unittest.main()
