"""[2.3] and [3.1] of modules as objects, and [0.1] to [0.5] and [0.9] of the class."""
import itertools
import unittest

from tests import brute
from tests.test_bases import LARGE, SMALL, some_lists
from tests.wrong import check_call, check_is, check_wrong, few_junk, look, much_junk, outcome
from tests.wrong import size_at, vector_at, width_at
from wordlaws.errors import InvalidBasis, InvalidVector, TooMany
from wordlaws.modules.bases import basis_of, contains, member_count
from wordlaws.modules.duals import annihilator, common_basis
from wordlaws.modules.spaces import Module

START = [width_at(0), size_at(1)]
LISTED = (
    "width", "size", "basis", "zero", "whole", "is_size", "has", "plus", "common", "dual", "within", "members",
    "__contains__", "__len__", "__eq__", "__str__", "MOST",
)


def within(vector, module):
    return vector in module


def parts_of(make):
    """A function that makes a module and returns its parts, which can be compared and printed."""
    def parts(*args):
        module = make(*args)
        return module.width, module.size, module.basis
    return parts


def small_modules():
    for width, size in SMALL:
        for vectors in list(some_lists(width, size))[::9]:
            yield width, size, vectors, Module(width, size, *vectors), brute.span(width, size, vectors)


class Form(unittest.TestCase):
    def test_all_stands_in_the_class(self):
        for name in LISTED:
            self.assertIn(name, vars(Module))
        for name in ("width", "size", "basis"):
            self.assertIsInstance(vars(Module)[name], property)
        for name in ("zero", "whole"):
            self.assertIsInstance(vars(Module)[name], classmethod)
        self.assertIsInstance(vars(Module)["is_size"], staticmethod)
        self.assertEqual((Module.MOST, Module(4, 2).MOST), (4096, 4096))

    def test_example(self):
        module = Module(4, 2, (6, 4), (0, 8))
        self.assertEqual(module.basis, ((2, 4), (0, 8)))
        self.assertEqual(len(module), 2)
        self.assertEqual(str(module), "module of 16 vectors of size 2")
        self.assertEqual(module.plus(Module.whole(4, 2)) == Module.whole(4, 2), True)
        common = module.common(Module(4, 2, (1, 0)))
        self.assertEqual(list(common.members()), [(0, 0), (4, 0), (8, 0), (12, 0)])


class Objects(unittest.TestCase):
    def test_properties(self):
        for width, size, vectors, module, span in small_modules():
            basis = basis_of(width, size, vectors)
            self.assertEqual((module.width, module.size, module.basis), (width, size, basis))
            self.assertEqual(len(module), len(basis))
            self.assertEqual(str(module), f"module of {len(span)} vectors of size {size}")

    def test_large(self):
        for width, size in LARGE:
            source = brute.seeded(width * 100 + size)
            vectors = brute.some_vectors(source, width, size, size - 1)
            module = Module(width, size, *vectors)
            basis = basis_of(width, size, vectors)
            self.assertEqual(module.basis, basis)
            self.assertEqual(module.dual().basis, annihilator(width, size, basis))
            other = Module(width, size, *brute.some_vectors(source, width, size, size))
            self.assertEqual(module.plus(other).basis, basis_of(width, size, basis + other.basis))
            self.assertEqual(module.common(other).basis, common_basis(width, size, basis, other.basis))
            self.assertEqual(str(module), f"module of {member_count(width, size, basis)} vectors of size {size}")
            self.assertIs(module.within(module.plus(other)), True)
            self.assertIs(module.plus(other).within(module), len(module.plus(other).basis) == len(module) == 0)
            vector = brute.some_vector(source, width, size)
            self.assertIs(module.has(vector), contains(width, size, basis, vector))

    def test_zero_and_whole(self):
        for width, size in ((1, 1), (4, 2), (3, 5), (16, 40)):
            zero, whole = Module.zero(width, size), Module.whole(width, size)
            self.assertEqual((zero.width, zero.size, zero.basis), (width, size, ()))
            self.assertEqual((whole.width, whole.size), (width, size))
            self.assertEqual(whole.basis, tuple(tuple(int(i == k) for i in range(size)) for k in range(size)))
            self.assertEqual((len(zero), len(whole)), (0, size))
            self.assertEqual(zero == Module(width, size), True)
            self.assertEqual(str(zero), f"module of 1 vectors of size {size}")
            self.assertEqual(str(whole), f"module of {2 ** (width * size)} vectors of size {size}")
            self.assertEqual((zero.dual() == whole, whole.dual() == zero), (True, True))
            self.assertIs(type(zero), Module)

    def test_it_does_not_change(self):
        module, other = Module(4, 2, (6, 4), (0, 8)), Module(4, 2, (1, 0))
        for name in ("width", "size", "basis"):
            with self.assertRaises(AttributeError):
                setattr(module, name, 1)
        results = (module.plus(other), module.common(other), module.dual(), module.within(other), list(module.members()))
        self.assertEqual((module.width, module.size, module.basis), (4, 2, ((2, 4), (0, 8))))
        self.assertEqual(other.basis, ((1, 0),))
        self.assertIsNot(module.plus(), module)
        again = (module.plus(other), module.common(other), module.dual(), module.within(other), list(module.members()))
        self.assertEqual(results, again)
        for call in (lambda: module.has(1), lambda: module.plus(1), lambda: 1 in module, lambda: module.within(1)):
            with self.assertRaises(ValueError):
                call()
        self.assertEqual((module.width, module.size, module.basis), (4, 2, ((2, 4), (0, 8))))

    def test_wrong_arguments(self):
        made = parts_of(Module)
        check_wrong(self, made, (4, 2), START)
        check_wrong(self, made, (4, 2, (6, 4)), START + [vector_at(2)])
        check_wrong(self, made, (4, 2, (6, 4), (0, 8)), START + [vector_at(2), vector_at(3)])
        check_wrong(self, parts_of(Module.zero), (4, 2), START)
        check_wrong(self, parts_of(Module.whole), (4, 2), START)

    def test_is_size(self):
        check_is(self, Module.is_size, (40,), [], brute.is_size)
        for value in range(-3, 50):
            self.assertIs(Module.is_size(value), 1 <= value <= 40)
            self.assertIs(Module(1, 1).is_size(value), 1 <= value <= 40)


class Vectors(unittest.TestCase):
    def test_has(self):
        for width, size, _, module, span in small_modules():
            for vector in brute.all_vectors(width, size):
                self.assertIs(module.has(vector), vector in span)
                self.assertIs(vector in module, vector in span)

    def test_wrong_vectors(self):
        for width, size in ((4, 2), (1, 1), (16, 40)):
            module = Module(width, size, (1,) * size)
            for junk in much_junk() + [module]:
                right = brute.is_vector(width, size, junk)
                checks = [lambda args, right=right: None if right else (InvalidVector,)]
                check_call(self, module.has, checks, (junk,))
                result, error = outcome(within, (junk, module), {})
                self.assertIs(type(error), type(None) if right else InvalidVector)

    def test_members(self):
        for _, _, _, module, span in small_modules():
            self.assertEqual(list(module.members()), sorted(span))

    def test_members_in_part_and_anew(self):
        module = Module(4, 3, (2, 1, 7), (0, 4, 9))
        expected = sorted(brute.span(4, 3, module.basis))
        first, second = module.members(), module.members()
        self.assertIs(iter(first), first)
        self.assertEqual([next(first), next(first)], expected[:2])
        self.assertEqual([next(second), next(first)], [expected[0], expected[2]])
        self.assertEqual(list(first), expected[3:])
        self.assertEqual(list(first), [])
        self.assertEqual(list(second), expected[1:])
        self.assertEqual(list(module.members()), expected)

    def test_bound_of_members(self):
        for module in (Module(12, 1, (1,)), Module(4, 3, *Module.whole(4, 3).basis), Module(16, 40, (16,) * 40),
                       Module(1, 40, *Module.whole(1, 40).basis[:12])):
            members = list(module.members())
            self.assertEqual((len(members), len(set(members))), (4096, 4096))
            self.assertEqual(members, sorted(members))
            self.assertTrue(all(vector in module for vector in members[::97]))
        for module in (Module(13, 1, (1,)), Module(4, 4, *Module.whole(4, 4).basis[1:], (8, 0, 0, 0)),
                       Module(16, 40, (8,) * 40), Module.whole(16, 40), Module(1, 40, *Module.whole(1, 40).basis[:13])):
            with self.assertRaises(TooMany) as caught:
                next(iter(module.members()))
            self.assertEqual(caught.exception.limit, 4096)
            with self.assertRaises(TooMany):
                list(module.members())


class Several(unittest.TestCase):
    def test_against_a_search(self):
        for width, size in SMALL:
            lists = list(some_lists(width, size))[::11]
            for parts in zip(lists, lists[1:], lists[2:]):
                modules = [Module(width, size, *vectors) for vectors in parts]
                spans = [brute.span(width, size, vectors) for vectors in parts]
                first, *others = modules
                joined = brute.span(width, size, sum(parts, ()))
                self.assertEqual(brute.span(width, size, first.plus(*others).basis), joined)
                common = brute.span(width, size, first.common(*others).basis)
                self.assertEqual(common, frozenset.intersection(*spans))
                for one, two in itertools.product(range(3), repeat=2):
                    self.assertIs(modules[one].within(modules[two]), spans[one] <= spans[two])
                    self.assertIs(modules[one] == modules[two], spans[one] == spans[two])
                    self.assertIs(modules[one] != modules[two], spans[one] != spans[two])
                self.assertIs(first.within(first.plus(*others)), True)
                self.assertIs(first.common(*others).within(first), True)

    def test_alone(self):
        module = Module(4, 2, (6, 4))
        self.assertEqual((module.plus() == module, module.common() == module), (True, True))

    def test_dual(self):
        for width, size, vectors, module, _ in small_modules():
            dual = module.dual()
            self.assertEqual((dual.width, dual.size), (width, size))
            self.assertEqual(dual.basis, annihilator(width, size, basis_of(width, size, vectors)))
            self.assertEqual(dual.dual() == module, True)

    def test_equality(self):
        module = Module(4, 2, (6, 4), (0, 8))
        self.assertIs(module == Module(4, 2, (0, 8), (2, 4), (2, 12)), True)
        for value in few_junk() + much_junk() + [module.basis, (4, 2, module.basis), Module, str(module)]:
            self.assertIs(module == value, False)
            self.assertIs(value == module, False)
            self.assertIs(module != value, True)
        self.assertIs(Module(4, 2) == Module(3, 2), False)
        self.assertIs(Module(4, 2) == Module(4, 3), False)
        self.assertIs(Module(4, 2, (1, 0)) == Module(5, 2, (1, 0)), False)
        self.assertIs(Module(4, 2, (1, 0)) == Module(4, 2, (0, 1)), False)

    def test_others_that_do_not_fit(self):
        module = Module(4, 2, (6, 4), (0, 8))
        right = Module(4, 2, (1, 0))
        for other in few_junk() + [Module(5, 2), Module(4, 3), Module.whole(3, 2), module.basis, Module]:
            before = look(module.basis)
            for call in (module.plus, module.common):
                for others in ((other,), (right, other), (other, right), (right, right, other)):
                    with self.assertRaises(InvalidBasis):
                        call(*others)
            with self.assertRaises(InvalidBasis):
                module.within(other)
            self.assertEqual(look(module.basis), before)
