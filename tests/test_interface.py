"""The interface: the names, the arguments, and the files that define them; the form of the package."""

import ast
import inspect
import unittest
from importlib import import_module
from pathlib import Path

PACKAGE = Path(__file__).resolve().parent.parent / 'squeezelists'
FUNCTIONS = {
    'squeezing': {
        'squeezed': '(length, replacements)',
        'squeeze_text': '(text, character, replacements)',
        'stages': '(length, replacements)',
    },
    'reaches': {
        'reach': '(replacements, most=1)',
        'best_reach': '(steps, most=1)',
        'fewest_steps': '(length, most=1)',
        'best_lists': '(steps, most=1)',
    },
    'choices': {
        'count_lists': '(steps, greatest, length)',
        'nth_list': '(steps, greatest, length, number)',
    },
    'origins': {
        'greatest_origin': '(length, replacements)',
        'origins': '(length, replacements)',
        'count_origins': '(length, replacements, last)',
    },
    'parting': {
        'parting_run': '(first, second)',
        'commute': '(first, second)',
        'list_of': '(singles)',
    },
    'hidden': {
        'find': '(hidden, steps, greatest)',
    },
    'texts': {
        'show_list': '(replacements)',
    },
    'readings': {
        'read_list': '(text)',
    },
}
CLASSES = {
    'errors': ['SqueezeError', 'InvalidList', 'InvalidNumber', 'InvalidCharacter', 'NothingToUndo', 'Unreadable'],
    'hidden': ['HiddenList'],
    'live': ['SqueezedText'],
}
METHODS = {
    ('hidden', 'HiddenList'): {
        '__init__': '(self, replacements)',
        'ask': '(self, length)',
    },
    ('live', 'SqueezedText'): {
        '__init__': '(self, text, character)',
        '__eq__': '(self, other)',
        'squeeze': '(self, *replacements)',
        'undo': '(self)',
        'runs': '(self)',
    },
}
PROPERTIES = {
    ('hidden', 'HiddenList'): ['questions'],
    ('live', 'SqueezedText'): ['text', 'replacements', 'longest'],
}


def package_files():
    return sorted(PACKAGE.glob('**/*.py'))


def defined_in(name, kind):
    tree = ast.parse((PACKAGE / f'{name}.py').read_text(encoding='utf-8'))
    return [node.name for node in tree.body if isinstance(node, kind)]


class InterfaceTest(unittest.TestCase):

    def test_functions(self):
        for name, functions in FUNCTIONS.items():
            module = import_module(f'squeezelists.{name}')
            for function, arguments in functions.items():
                with self.subTest(name=name, function=function):
                    self.assertIn(function, defined_in(name, ast.FunctionDef))
                    self.assertEqual(str(inspect.signature(getattr(module, function))), arguments)

    def test_classes(self):
        for name, classes in CLASSES.items():
            self.assertEqual(defined_in(name, ast.ClassDef), classes)

    def test_methods_stand_in_the_class_itself(self):
        for (name, kind), methods in METHODS.items():
            members = vars(getattr(import_module(f'squeezelists.{name}'), kind))
            for method, arguments in methods.items():
                with self.subTest(kind=kind, method=method):
                    self.assertEqual(str(inspect.signature(members[method])), arguments)

    def test_properties(self):
        for (name, kind), properties in PROPERTIES.items():
            members = vars(getattr(import_module(f'squeezelists.{name}'), kind))
            for word in properties:
                with self.subTest(kind=kind, word=word):
                    self.assertIsInstance(members[word], property)

    def test_single_is_a_class_method(self):
        live = import_module('squeezelists.live')
        self.assertIsInstance(vars(live.SqueezedText)['single'], classmethod)
        self.assertEqual(str(inspect.signature(live.SqueezedText.single)), '(text, character)')

    def test_generators_yield(self):
        for name, function, second in [('squeezing', 'stages', [2]), ('reaches', 'best_lists', 1),
                                       ('origins', 'origins', [2])]:
            found = getattr(import_module(f'squeezelists.{name}'), function)(3, second)
            self.assertIs(iter(found), iter(found))


class FormTest(unittest.TestCase):

    def test_the_folder_holds_files_of_the_program_only(self):
        others = [path for path in PACKAGE.glob('**/*')
                  if path.suffix != '.py' and '__pycache__' not in path.parts]
        self.assertEqual(others, [])

    def test_characters_and_sizes(self):
        for path in package_files():
            with self.subTest(path=path.name):
                text = path.read_text(encoding='utf-8')
                lines = text.split('\n')
                self.assertTrue(all(sign == '\n' or ' ' <= sign <= '~' for sign in text))
                self.assertLessEqual(len(lines), 399)
                self.assertLessEqual(max(map(len, lines)), 120)
                for node in ast.walk(ast.parse(text)):
                    if isinstance(node, ast.FunctionDef):
                        self.assertLessEqual(node.end_lineno - node.lineno + 1, 40)

    def test_only_files_of_the_package_are_imported(self):
        for path in package_files():
            for node in ast.walk(ast.parse(path.read_text(encoding='utf-8'))):
                with self.subTest(path=path.name):
                    self.assertNotIsInstance(node, ast.Import)
                    if isinstance(node, ast.ImportFrom):
                        self.assertEqual((node.module.split('.')[0], node.level), ('squeezelists', 0))


if __name__ == '__main__':
    unittest.main()
