"""Whether the check of names finds what rule L12 of the language excludes, and nothing else."""

import unittest

from names import excluded_names

# Where a name can stand, each time on line 1 or 2.
PLACES = {
    "a function": "def {}():\n    pass\n",
    "a nested function": "def f():\n    def {}(): pass\n",
    "a parameter": "def f({}):\n    pass\n",
    "a parameter behind a star": "def f(*, {}=1):\n    pass\n",
    "a rest": "def f(*{}):\n    pass\n",
    "more keywords": "def f(**{}):\n    pass\n",
    "a parameter of a lambda": "def f():\n    return lambda {}: 1\n",
    "a module-level name": "{} = 1\n",
    "a local variable": "def f():\n    {} = 1\n",
    "a variable that is read": "def f():\n    return {}\n",
    "a starred target": "def f():\n    a, *{} = 1, 2\n",
    "a variable of a loop": "def f():\n    for {} in (): pass\n",
    "a variable of a comprehension": "def f():\n    return [1 for {} in ()]\n",
    "an assignment within a test": "def f():\n    if {} := 1: pass\n",
    "a nonlocal name": "def f():\n    nonlocal {}\n",
    "a deleted name": "def f(a):\n    del {}\n",
    "a caught error": "def f():\n    try: pass\n    except KeyError as {}: pass\n",
    "a captured name": "def f(a):\n    match a:\n        case {}: pass\n",
    "a captured rest": "def f(a):\n    match a:\n        case [*{}]: pass\n",
    "a name behind a pattern": "def f(a):\n    match a:\n        case 1 as {}: pass\n",
    "a name of with": "def f(a):\n    with a as {}: pass\n",
    "an import": "from clockslack.values import {}\n",
    "another name of an import": "from clockslack.values import values_of as {}\n",
    "a module": "from clockslack.{} import values_of\n",
    "a keyword": "def f(g):\n    return g({}=1)\n",
    "an annotation": "def f(a: {}):\n    pass\n",
    "braces": "def f():\n    return f\"a {{{}}}\"\n",
    "a class value": "class A:\n    {} = 1\n",
    "a class": "class {}:\n    pass\n",
}

# Where a name of an attribute or a method can stand.
MEMBERS = {
    "a method": "class A:\n    def {}(self): pass\n",
    "a property": "class A:\n    @property\n    def {}(self): pass\n",
    "a method that is called": "def f(a):\n    return a.{}()\n",
    "an attribute that is read": "def f(a):\n    return a.{}\n",
    "an attribute that is assigned": "def f(a):\n    a.{} = 1\n",
    "an attribute in a pattern": "def f(a):\n    match a:\n        case A({}=1): pass\n",
    "a slot": "class A:\n    __slots__ = ('{}',)\n",
    "getattr": "def f(a):\n    return getattr(a, '{}', 0)\n",
    "hasattr": "def f(a):\n    return hasattr(a, '{}')\n",
    "setattr": "def f(a):\n    setattr(a, '{}', 0)\n",
}

WHOLE = ("_cold", "_tuplegetter", "_outside", "_record", "_written_out", "_member_names")
BEGINNINGS = ("_pe_", "_dcw_", "_enum_", "_cm_", "_twin_re_", "_lay_", "_law_", "_stub_", "_sre", "_WallAttr")
PLAIN = (
    "record", "_r", "_records", "_recorded", "_record_of", "record_", "a_record", "_Record", "_coldest", "_pe",
    "_pen_", "a_pe_b", "_law", "_enumerated", "_cmd", "_sr", "_Wall", "a_wall", "wall", "_LIMIT", "x1", "_x_1_")


class Names(unittest.TestCase):

    def found(self, form, name):
        return [each for _, each in excluded_names(form.format(name))]

    def test_the_barred_names_wherever_they_stand(self):
        for place, form in {**PLACES, **MEMBERS}.items():
            for name in WHOLE + BEGINNINGS:
                with self.subTest(place=place, name=name):
                    self.assertEqual(self.found(form, name), [name])

    def test_digits_and_underscores_behind_a_whole_name(self):
        for name in WHOLE:
            for more in ("_", "1", "__", "_2", "10_3"):
                for form in (PLACES["a function"], MEMBERS["a method"], MEMBERS["an attribute that is read"]):
                    self.assertEqual(self.found(form, name + more), [name + more])

    def test_what_follows_a_beginning(self):
        for name in BEGINNINGS:
            for more in ("x", "1", "_", "_more"):
                for form in (PLACES["a function"], MEMBERS["a method"], MEMBERS["an attribute that is read"]):
                    self.assertEqual(self.found(form, name + more), [name + more])

    def test_plain_names(self):
        for place, form in {**PLACES, **MEMBERS}.items():
            for name in PLAIN:
                with self.subTest(place=place, name=name):
                    excluded = place == "a class" and name.startswith("_")
                    self.assertEqual(self.found(form, name), [name] if excluded else [])

    def test_only_attributes_and_methods_begin_with_wall(self):
        for place, form in PLACES.items():
            with self.subTest(place=place):
                self.assertEqual(self.found(form, "_walls"), ["_walls"])
        for place, form in MEMBERS.items():
            with self.subTest(place=place):
                self.assertEqual(self.found(form, "_walls"), [])
                self.assertEqual(self.found(form, "_wall"), ["_wall"])

    def test_the_words_that_stand_nowhere(self):
        for word in ("_wall", "_WallAttr"):
            self.assertEqual(excluded_names(f"a = 1\n# a {word}, here\n"), [(2, word)])
            self.assertEqual(excluded_names(f"a = 'see {word}.'\n"), [(1, word)])
            self.assertEqual(excluded_names(f'"""A file.\n\nWith {word}\n"""\n'), [(3, word)])
            self.assertEqual(excluded_names(f"# x{word} {word}s {word}_ {word}1\n"), [])

    def test_the_other_names_may_stand_in_strings_and_comments(self):
        for name in WHOLE + BEGINNINGS[:-1]:
            self.assertEqual(excluded_names(f"# {name}\na = '{name}'\n"), [])

    def test_underscores_ahead(self):
        for name in ("__x", "___", "__", "_1", "__record", "__x__", "__dict__", "__rpow__"):
            for form in (PLACES["a function"], MEMBERS["a method"], MEMBERS["an attribute that is read"]):
                self.assertEqual(self.found(form, name), [name])

    def test_letters_that_are_not_ascii(self):
        for form in (PLACES["a function"], MEMBERS["an attribute that is read"]):
            self.assertEqual(self.found(form, "caf\u00e9"), ["caf\u00e9"])

    def test_special_names(self):
        for name in ("__init__", "__add__", "__radd__", "__ipow__", "__getitem__", "__bool__", "__len__"):
            self.assertEqual(self.found(MEMBERS["a method"], name), [])
        self.assertEqual(excluded_names("from __future__ import annotations\n__all__ = ()\n__version__ = '1'\n"), [])
        self.assertEqual(excluded_names("def f(a):\n    return a.__class__.__name__\n"), [])

    def test_an_underscore_that_is_assigned_in_a_function(self):
        for place in ("a local variable", "a variable of a loop", "a variable of a comprehension", "a starred target",
                      "a parameter", "a parameter of a lambda", "a captured name", "a captured rest"):
            with self.subTest(place=place):
                self.assertEqual(self.found(PLACES[place], "_"), [])
        self.assertEqual(excluded_names("class A:\n    def f(self, _):\n        def g(_): pass\n"), [])

    def test_an_underscore_elsewhere(self):
        for place in ("a variable that is read", "a deleted name", "a module-level name", "a class value", "a function",
                      "a class", "a keyword", "an import", "a nonlocal name"):
            with self.subTest(place=place):
                self.assertEqual(self.found(PLACES[place], "_"), ["_"])
        for place, form in MEMBERS.items():
            with self.subTest(place=place):
                self.assertEqual(self.found(form, "_"), ["_"])
        self.assertEqual(excluded_names("class A:\n    def f(_): pass\n"), [(2, "_")])

    def test_every_line_is_named(self):
        text = "class A:\n    def f(self):\n        return self._record(1)\n\n    def _record(self, x):\n        pass\n"
        self.assertEqual(excluded_names(text), [(3, "_record"), (5, "_record")])
        self.assertEqual(excluded_names(""), [])


if __name__ == "__main__":
    unittest.main()
