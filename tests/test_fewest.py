"""[13.1] to [13.3], and [0.1] to [0.5] and [0.9] of the functions on fewest variables."""
import itertools
import unittest

from tests import brute, forms, plain
from tests.checks import changed_parts, check_all, is_point, is_row, point_at, point_junk, program_at, row_at
from tests.examples import P, Q, R
from tests.making import DOUBLE, ENDLESS, KNOWN, NESTED, SWAPS, WIDE, some_programs
from tests.test_invariants import ROWS, some_rows
from tests.test_trails import some_trails
from tests.wrong import check_call, few_junk, much_junk
from wordlaws.errors import InvalidChange, InvalidNumber, InvalidProgram, NotInvariant
from wordlaws.facts.facts import are_equal
from wordlaws.facts.fewest import determined_row, fewest_variables, is_determined, is_separating_mixture, rewritten
from wordlaws.facts.fewest import separating_mixture, simplified
from wordlaws.flow.states import spanning_trails, state_basis
from wordlaws.invariants.invariants import invariant_basis
from wordlaws.runs.trails import is_trail, trail_state

SMALL = tuple(program for width in (1, 2, 3) for program in some_programs(40, width)) + (P, R, NESTED, SWAPS)
TINY = tuple(
    program for width in (1, 2, 3) for program in some_programs(60, width) if plain.state_bits(program) <= 3
)
LARGE = KNOWN + tuple(program for width in (8, 16) for program in some_programs(12, width, 14))
ONE, TWO = ((), ((0, 0, 0),)), ((), ((1, 0, 0),))
NUMBERS = [(1, 1), (2, 1), (0,), (0, 1), (1, 2), (3,), (True,), (1, True), [1], (1, None), ((1,),), (1, 2, 3, 4, 5)]


def all_numbers(many):
    """All ascending tuples, the shortest first, then ascending."""
    return [numbers for length in range(many + 1) for numbers in itertools.combinations(range(1, many + 1), length)]


def uses(row, numbers):
    return all(word == 0 for at, word in enumerate(row) if at > 0 and at not in numbers)


def determines(program, row, numbers, states):
    """Whether one of all rows that use the numbers is equal on all states."""
    size = len(row)
    values = [brute.dot(program[0], row, state) for state in states]
    for words in itertools.product(range(2 ** program[0]), repeat=1 + len(numbers)):
        table = dict(zip((0,) + numbers, words))
        other = tuple(table.get(at, 0) for at in range(size))
        if [brute.dot(program[0], other, state) for state in states] == values:
            return True
    return False


def separates(program, point, row, numbers, value):
    """[13.2], word for word, by plain steps."""
    if type(value) is not tuple:
        return False
    total = (0,) * plain.state_size(program, point[0])
    for pair in value:
        if type(pair) is not tuple or len(pair) != 2 or not brute.is_word(program[0], pair[0]):
            return False
        if not plain.is_trail(program, pair[1]):
            return False
        reached, state = plain.trail_end(program, pair[1])
        if reached != point:
            return False
        total = brute.plus(program[0], total, brute.times(program[0], state, pair[0]))
    return all(total[at] == 0 for at in (0,) + numbers) and brute.dot(program[0], row, total) != 0


def numbers_at(place):
    """The point is the second argument."""
    def check(args):
        value, many = args[place], plain.state_size(args[0], args[1][0]) - 1
        if type(value) is tuple and all(brute.is_int(number, 1, many) for number in value):
            if all(early < late for early, late in zip(value, value[1:])):
                return None
        return InvalidNumber, "value", value
    return check


class Determined(unittest.TestCase):
    def check(self, program, point, row, numbers, right):
        """It is known whether the numbers determine the row: a row shows that they do, a mixture that they do not."""
        self.assertIs(is_determined(program, point, row, numbers), right)
        found = determined_row(program, point, row, numbers)
        mixture = separating_mixture(program, point, row, numbers)
        if right:
            self.assertIsNone(mixture)
            self.assertTrue(is_row(program, point[0], found) and uses(found, numbers))
            self.assertIs(are_equal(program, point, row, found), True)
            return found
        self.assertIsNone(found)
        self.assertIs(is_separating_mixture(program, point, row, numbers, mixture), True)
        if all(is_trail(program, trail) and len(trail[0]) < 9 for _, trail in mixture):
            self.assertTrue(separates(program, point, row, numbers, mixture))
        return None

    def check_fewest(self, program, point, row, expected):
        numbers, new = fewest_variables(program, point, row)
        self.assertEqual(numbers, expected)
        self.assertTrue(is_row(program, point[0], new) and uses(new, numbers))
        self.assertIs(are_equal(program, point, row, new), True)

    def test_all_rows_and_all_numbers(self):
        rights = [0, 0]
        for program in TINY[::10]:
            reached = plain.reached_by_runs(program)
            for point in plain.points(program):
                states, size = reached.states(point), plain.state_size(program, point[0])
                for row in brute.all_vectors(program[0], size):
                    found = []
                    for numbers in all_numbers(size - 1):
                        right = determines(program, row, numbers, states)
                        self.check(program, point, row, numbers, right)
                        rights[right] += 1
                        found += [numbers] if right else []
                    self.check_fewest(program, point, row, found[0])
        self.assertGreater(min(rights), 200)

    def test_against_all_rows_that_use_them(self):
        lengths = set()
        for number, program in enumerate(SMALL[::3]):
            reached = plain.reached_by_runs(program)
            for point in plain.points(program)[::4]:
                states = sorted(reached.states(point))
                for row in some_rows(program, point[0], number, 1):
                    expected = None
                    for numbers in all_numbers(len(row) - 1):
                        if len(numbers) < 3:
                            right = determines(program, row, numbers, states)
                            self.check(program, point, row, numbers, right)
                            expected = numbers if right and expected is None else expected
                    if expected is not None:
                        self.check_fewest(program, point, row, expected)
                        lengths.add(len(expected))
        self.assertEqual(lengths, {0, 1, 2})

    def test_large(self):
        """What each pair of numbers determines is shown by rows and mixtures."""
        for number, program in enumerate(LARGE):
            for point in plain.points(program)[number % 12::12]:
                for row in some_rows(program, point[0], number, 1):
                    found = []
                    for numbers in all_numbers(len(row) - 1):
                        right = determined_row(program, point, row, numbers) is not None
                        self.check(program, point, row, numbers, right)
                        found += [numbers] if right else []
                    self.check_fewest(program, point, row, found[0])

    def test_the_first_of_the_shortest(self):
        """Of four variables any two are enough, or all four are needed."""
        body = (("input", "a"), ("input", "b"), ("set", "c", (0, 1, 1, 0, 0)), ("set", "d", (1, 1, 3, 0, 0)))
        program = (4, (), (("main", (), ("a", "b", "c", "d"), (), body),))
        self.assertEqual(fewest_variables(program, ("main", (4,)), (0, 0, 0, 1, 1)), ((1, 2), (1, 2, 4, 0, 0)))
        self.assertEqual(fewest_variables(program, ("main", (4,)), (5, 0, 0, 0, 2))[0], (4,))
        self.assertEqual(fewest_variables(program, ("main", (4,)), (5, 15, 15, 1, 0)), ((), (5, 0, 0, 0, 0)))
        body = tuple(("input", name) for name in "abcd")
        program = (4, (), (("main", (), ("a", "b", "c", "d"), (), body),))
        self.assertEqual(fewest_variables(program, ("main", (4,)), (9, 1, 8, 3, 2)), ((1, 2, 3, 4), (9, 1, 8, 3, 2)))
        self.assertEqual(fewest_variables(program, ("main", (3,)), (9, 1, 8, 3, 2)), ((1, 2, 3), (9, 1, 8, 3, 0)))

    def test_unreachable(self):
        for program, point in ((R, ("main", (2,))), (ENDLESS, ("idle", (0,))), (ENDLESS, ("never", (1,)))):
            for row in some_rows(program, point[0], 1, 5):
                for numbers in all_numbers(len(row) - 1):
                    self.check(program, point, row, numbers, True)
                    self.assertIs(is_separating_mixture(program, point, row, numbers, ()), False)
                self.check_fewest(program, point, row, ())

    def test_examples(self):
        self.assertEqual(fewest_variables(Q, ("main", (3,)), (3, 2, 5)), ((1,), (3, 7, 0)))
        self.assertIs(is_determined(Q, ("main", (3,)), (0, 1, 0), ()), False)
        self.assertEqual(determined_row(Q, ("main", (2, 0, 1)), (0, 1, 0), (2,)), (1, 0, 1))

    def test_wrong_arguments(self):
        checks = [program_at(0), point_at(1), row_at(2), numbers_at(3)]
        for function in (is_determined, determined_row, separating_mixture):
            check_all(self, function, (Q, ("main", (3,)), (0, 1, 0), (1, 2)), checks, NUMBERS)
        check_all(self, fewest_variables, (P, ("main", (1,)), (0, 4)), checks[:3], ROWS + point_junk())
        for numbers in all_numbers(3) + NUMBERS:
            check_call(self, is_determined, checks, (R, ("stop", (0,)), (1, 1), numbers))


class Mixtures(unittest.TestCase):
    def check(self, program, point, row, numbers, value):
        right = separates(program, point, row, numbers, value)
        self.assertIs(is_separating_mixture(program, point, row, numbers, value), right, value)
        return right

    def test_by_hand(self):
        point, row = ("main", (3,)), (0, 1, 0)
        for value, right in (
            (((1, TWO), (255, ONE)), True), (((255, ONE), (1, TWO)), True), (((1, TWO), (255, TWO)), False),
            ((), False), (((0, TWO), (0, ONE)), False), (((1, TWO),), False), (((1, TWO), (254, ONE)), False),
            (((1, TWO), (0, ONE), (255, ONE), (0, TWO)), True), (((1, TWO),) * 128 + ((128, ONE),), True),
            (((1, TWO),) * 256, False), (((128, TWO), (64, ONE), (64, ONE)), True),
            (((2, TWO), (255, ONE), (255, ONE)), True), ([(1, TWO), (255, ONE)], False),
            (((1, TWO), (255, ONE), ()), False), (((1, TWO), [255, ONE]), False), (((256, TWO), (0, ONE)), False),
            (((1, TWO), (-1, ONE)), False), (((True, TWO), (255, ONE)), False), (((1, TWO), (255, ONE, 0)), False),
            (((1, TWO), (255, ((), ((0, 0, 0, 0),)))), False), (((1, TWO), (255, ((), ((0, 0),)))), False),
            (((1, TWO), (255, ((), ((0, 0),))), (0, None)), False),
        ):
            self.assertIs(self.check(Q, point, row, (), value), right, value)
        self.assertIs(self.check(Q, point, row, (1,), ((1, TWO), (255, ONE))), False)
        self.assertIs(self.check(Q, point, row, (2,), ((1, TWO), (255, ONE))), False)
        self.assertIs(self.check(Q, point, (0, 1, 255), (), ((1, TWO), (255, ONE))), False)
        self.assertIs(self.check(Q, ("main", (2,)), row, (), ((1, TWO), (255, ONE))), False)
        shorter = tuple((word, (trail[0], (trail[1][0][:2],))) for word, trail in ((1, TWO), (255, ONE)))
        self.assertIs(self.check(Q, ("main", (2,)), row, (), shorter), True)
        self.assertIs(self.check(Q, ("main", (2,)), row, (), shorter + ((0, ONE),)), False)

    def test_mixtures_of_the_tests(self):
        rights = [0, 0]
        for number, program in enumerate(KNOWN + SMALL[::6]):
            source = brute.seeded(number)
            trails = {}
            for trail in some_trails(program, number, 8, 25):
                trails.setdefault(plain.trail_end(program, trail)[0], []).append(trail)
            for point, some in trails.items():
                size = plain.state_size(program, point[0])
                for _ in range(12):
                    words = [source.randrange(2 ** program[0]) for _ in range(source.randint(0, 3))]
                    # The last word makes the constant 0.
                    words.append(-sum(words) % 2 ** program[0])
                    value = tuple((word, source.choice(some)) for word in words)
                    row = some_rows(program, point[0], source.randrange(99), 1)[0]
                    numbers = source.choice(all_numbers(size - 1)[:4])
                    rights[self.check(program, point, row, numbers, value)] += 1
        self.assertGreater(min(rights), 30)

    def test_changed_mixtures(self):
        rights = [0, 0]
        cases = [(Q, ("main", (3,)), (0, 1, 0), (), ((1, TWO), (255, ONE))),
                 (Q, ("main", (3,)), (0, 3, 0), (), ((128, TWO), (64, ONE), (64, ONE)))]
        for number, program in enumerate((P, SWAPS, NESTED, DOUBLE) + SMALL[::30]):
            for point in plain.points(program)[-3:]:
                for row in some_rows(program, point[0], number, 2):
                    mixture = separating_mixture(program, point, row, ())
                    if mixture is not None:
                        cases.append((program, point, row, (), mixture))
        for program, point, row, numbers, mixture in cases[::2]:
            for value in changed_parts(mixture, (0, 1, None, ())):
                rights[self.check(program, point, row, numbers, value)] += 1
        self.assertGreater(min(rights), 30)

    def test_trails_that_cannot_be_executed(self):
        many = 3000
        pieces = (("f", (0, 0, 0)),) + tuple(("f", (1, k, k, 0)) for k in range(many))
        short, long = (pieces, ((0, 0),)), (pieces, ((many, 0),))
        for mixture, right in ((((1, short), (255, long)), True), (((1, long), (255, long)), False)):
            self.assertIs(is_separating_mixture(DOUBLE, ("main", (2,)), (0, 0, 1), (), mixture), right)
        self.assertIs(is_separating_mixture(DOUBLE, ("main", (2,)), (0, 0, 1), (1,), ((1, short), (255, long))), False)

    def test_wrong_arguments(self):
        checks = [program_at(0), point_at(1), row_at(2), numbers_at(3)]
        valid = (Q, ("main", (3,)), (0, 1, 0), (), ((1, TWO), (255, ONE)))
        extra = NUMBERS + [((1, TWO), (255, ONE)), (1, TWO), ((1, TWO),), ((1, ONE), (255, ONE)), (ONE, TWO), ((ONE, 1),)]
        check_all(self, is_separating_mixture, valid, checks, extra, separates)


def is_change(program, value):
    if type(value) is not tuple or len(value) != 3 or not is_point(program, value[0]) or type(value[1]) is not int:
        return False
    here = plain.statement(program, value[0])
    many = {"set": 1, "call": len(here[3]) if here and here[0] == "call" else 0}.get(here[0] if here else "", 0)
    return 0 <= value[1] < many and is_row(program, value[0][0], value[2])


def change_check(args):
    """What is wrong with the form of the changes."""
    if any(not is_change(args[0], value) for value in args[1:]):
        return (InvalidChange,)
    keys = [value[:2] for value in args[1:]]
    return (InvalidChange,) if len(set(keys)) < len(keys) else None


def rows_of(program):
    """All rows that can be changed, by their points and indices."""
    found = {}
    for point in plain.points(program):
        here = plain.statement(program, point)
        if here and here[0] == "set":
            found[point, 0] = here[2]
        if here and here[0] == "call":
            found.update(((point, index), row) for index, row in enumerate(here[3]))
    return found


def with_row(block, start, key, row):
    """The block with another row, by going down to it."""
    (_, place), index = key
    if len(start) + 1 == len(place):
        at = place[-1]
        here = block[at]
        if here[0] == "set":
            new = here[:2] + (row,)
        else:
            new = here[:3] + (here[3][:index] + (row,) + here[3][index + 1:],)
    else:
        at, number = place[len(start):len(start) + 2]
        inner = block[at][1] if block[at][0] == "choose" else (block[at][1],)
        changed = with_row(inner[number], place[:len(start) + 2], key, row)
        parts = inner[:number] + (changed,) + inner[number + 1:]
        new = (block[at][0], parts if block[at][0] == "choose" else parts[0])
    return block[:at] + (new,) + block[at + 1:]


def with_rows(program, rows):
    """The program with these rows, one after another."""
    for key, row in rows.items():
        procedures = tuple(
            entry[:4] + (with_row(entry[4], (), key, row),) if entry[0] == key[0][0] else entry for entry in program[2]
        )
        program = program[:2] + (procedures,)
    return program


def same_runs(case, program, other, number):
    """Walks by chance: the same moves are possible, and lead to the same configurations."""
    source = brute.seeded(number)
    for _ in range(6):
        one = two = plain.first_configuration(program)
        for _ in range(25):
            case.assertEqual(one, two)
            moves = [move for move in range(5) if plain.after(program, one, move)]
            case.assertEqual(moves, [move for move in range(5) if plain.after(other, two, move)])
            if not moves:
                break
            move = source.choice(moves)
            one, two = plain.after(program, one, move), plain.after(other, two, move)


class Rewritten(unittest.TestCase):
    def test_equal_rows(self):
        """Invariants at the point are added to the rows."""
        many = 0
        for number, program in enumerate(SMALL[::2] + LARGE):
            source = brute.seeded(number)
            rows = {}
            for (point, index), row in rows_of(program).items():
                kernel = [inv for inv in invariant_basis(program, point) if any(inv)]
                if kernel and source.random() < 0.7:
                    rows[point, index] = brute.plus(program[0], row, source.choice(kernel))
            changes = [(point, index, row) for (point, index), row in rows.items()]
            source.shuffle(changes)
            found = rewritten(program, *changes)
            self.assertEqual(found, with_rows(program, rows))
            self.assertTrue(forms.is_program(found))
            same_runs(self, program, found, number)
            many += len(rows)
        self.assertGreater(many, 150)

    def test_no_changes(self):
        for program in KNOWN:
            self.assertEqual(rewritten(program), program)

    def test_the_same_runs(self):
        """All states are the same, also where the changes lead to rows that another change has not made equal."""
        for program in SMALL[::4]:
            found = simplified(program)
            before, behind = plain.reached_by_runs(program), plain.reached_by_runs(found)
            self.assertEqual(before.pairs, behind.pairs)

    def test_all_at_once(self):
        """What is equal in the program need not be equal in the program with another change alone, and conversely."""
        program = (8, (), (("main", (), ("x", "y"), (), (
            ("input", "x"), ("set", "y", (0, 1, 0)), ("set", "x", (0, 1, 0)), ("set", "x", (0, 0, 1)),
        )),))
        changes = (("main", (2,)), 0, (0, 0, 1)), (("main", (3,)), 0, (0, 1, 0))
        found = rewritten(program, *changes)
        self.assertEqual(found[2][0][4][2:], (("set", "x", (0, 0, 1)), ("set", "x", (0, 1, 0))))
        self.assertEqual(rewritten(program, *changes[::-1]), found)

    def test_rows_that_are_not_equal(self):
        """The first change whose row differs counts, with a trail that shows that."""
        seen = 0
        for number, program in enumerate(SMALL[::2] + (WIDE, DOUBLE)):
            rows = rows_of(program)
            source = brute.seeded(number)
            new = {key: some_rows(program, key[0][0], number, 1)[0] for key in rows}
            changes = [(point, index, new[point, index]) for point, index in rows]
            source.shuffle(changes)
            wrong = [change for change in changes if not are_equal(program, change[0], rows[change[:2]], change[2])]
            right = [change for change in changes if change not in wrong]
            self.assertEqual(rewritten(program, *right), with_rows(program, {key[:2]: key[2] for key in right}))
            if wrong:
                seen += 1
                with self.assertRaises(NotInvariant) as caught:
                    rewritten(program, *changes)
                point, index, row = wrong[0]
                reached, state = trail_state(program, caught.exception.trail)
                self.assertEqual(reached, point)
                old = rows[point, index]
                self.assertNotEqual(brute.dot(program[0], old, state), brute.dot(program[0], row, state))
        self.assertGreater(seen, 40)

    def test_order_of_errors(self):
        point = ("main", (2, 0, 1))
        equal, other = (point, 0, (0, 1, 0)), (point, 0, (0, 0, 0))
        for changes, error in (
            ((equal, equal), InvalidChange), ((other, other), InvalidChange), ((equal, other), InvalidChange),
            ((other, 0), InvalidChange), ((other, (("main", (1,)), 0, (0, 1, 0))), NotInvariant),
            ((other, (("main", (3,)), 0, (0, 1, 0))), InvalidChange), ((other,), NotInvariant),
            ((other, (("lost", (1,)), 0, (0, 1, 0))), InvalidChange),
            ((other, (("main", (0,)), 0, (0, 1, 0))), InvalidChange),
            ((other, (("main", (1,)), 1, (0, 1, 0))), InvalidChange),
            ((other, (("main", (1,)), -1, (0, 1, 0))), InvalidChange),
            ((other, (("main", (1,)), False, (0, 1, 0))), InvalidChange),
            ((other, (("main", (1,)), 0, (0, 1))), InvalidChange),
            ((other, [("main", (1,)), 0, (0, 1, 0)]), InvalidChange),
        ):
            with self.assertRaises(error):
                rewritten(Q, *changes)
            with self.assertRaises(InvalidProgram):
                rewritten(Q[:2], *changes)

    def test_arguments_of_calls(self):
        rows = {(("main", (4,)), 1): (12, 0, 0, 1, 0)}
        self.assertEqual(rewritten(WIDE, (("main", (4,)), 1, (12, 0, 0, 1, 0))), with_rows(WIDE, rows))
        with self.assertRaises(InvalidChange):
            rewritten(WIDE, (("main", (4,)), 2, (12, 0, 0, 1, 0)))
        for index in (0, 1):
            with self.assertRaises(NotInvariant):
                rewritten(WIDE, (("main", (4,)), index, (13, 0, 0, 1, 0)))
        with self.assertRaises(InvalidChange):
            rewritten(P, (("f", (0, 1, 1)), 1, (0, 1)))

    def test_example(self):
        self.assertEqual(
            rewritten(Q, (("main", (2, 0, 1)), 0, (0, 1, 0)))[2][0][4][2],
            ("repeat", (("set", "x", (1, 1, 0)), ("set", "y", (0, 1, 0)))),
        )

    def test_wrong_arguments(self):
        checks = [program_at(0), change_check]
        one, two = (("main", (2, 0, 1)), 0, (0, 1, 0)), (("main", (1,)), 0, (0, 1, 0))
        extra = [junk[:place] + (part,) + junk[place + 1:] for junk in (one,) for place in range(3)
                 for part in few_junk() + point_junk()]
        for junk in much_junk() + extra + [two[:2], two + (0,), list(two)]:
            if not is_change(Q, junk):
                check_call(self, rewritten, checks, (Q, one, junk))
                check_call(self, rewritten, checks, (Q, junk, two))
                check_call(self, rewritten, checks, (junk, one, junk))
        check_call(self, rewritten, checks, (Q, one, two))
        check_call(self, rewritten, checks, (Q, one, one))


class Simplified(unittest.TestCase):
    def check(self, program, number):
        found = simplified(program)
        self.assertTrue(forms.is_program(found))
        old, new = rows_of(program), rows_of(found)
        self.assertEqual(list(old), list(new))
        self.assertEqual(with_rows(program, new), found)
        for (point, index), row in new.items():
            self.assertIs(are_equal(program, point, row, old[point, index]), True)
            used = sum(word != 0 for word in row[1:])
            self.assertLessEqual(used, len(fewest_variables(program, point, row)[0]))
            if state_basis(program, point) == ():
                self.assertEqual(used, 0)
        same_runs(self, program, found, number)

    def test_simplified(self):
        for number, program in enumerate(SMALL[::3] + LARGE):
            self.check(program, number)

    def test_spanning_trails(self):
        """The trails of the program lead to the same states in the new one."""
        for program in LARGE[::2]:
            found = simplified(program)
            for point in plain.points(program)[::4]:
                for trail in spanning_trails(program, point):
                    self.assertEqual(trail_state(program, trail), trail_state(found, trail))

    def test_examples(self):
        self.assertEqual(simplified(R), R)
        body = (("input", "x"), ("set", "y", (0, 1, 0)), ("set", "y", (3, 1, 255)), ("set", "x", (0, 1, 1)))
        program = (8, (), (("main", (), ("x", "y"), (), body),))
        self.assertEqual(simplified(program)[2][0][4], body[:2] + (("set", "y", (3, 0, 0)), ("set", "x", (3, 1, 0))))

    def test_wrong_arguments(self):
        check_all(self, simplified, (P,), [program_at(0)], (P[:2], list(P), (0,) + P[1:]))
