import random
import unittest
from itertools import product as every

from tests.kit import caught, refuses, wrong_values
from timesthrough.base import rests
from timesthrough.base.rests import goal_bar, is_goal_bar, is_prime, is_table, kernel, rank, reduced, solution
from timesthrough.errors import InvalidNumber, InvalidTable

NO_PRIMES = [-7, 0, 1, 2, 3, 4, 6, 9, 25, 251 * 257, 65520, 65522, 65535, 65537]
NO_TABLES = [wrong for wrong in wrong_values() if wrong != ((),)] + [
    ((1, 2), (1,)), ((7,),), ((-1,),), ((1, True),), ((1,), [1]), [(1, 2)], ((1, None),), (1, 2), (("1",),),
    ((0,),) * 201, ((0,) * 201,), ((1, (2,)),)]


def random_table(chance, prime, rows, columns):
    return tuple(tuple(chance.choice((0, 1, chance.randrange(prime))) for _ in range(columns)) for _ in range(rows))


def times(prime, table, vector):
    return tuple(sum(a * b for a, b in zip(row, vector)) % prime for row in table)


def span(prime, table, width):
    found = set()
    for factors in every(range(prime), repeat=len(table)):
        found.add(tuple(sum(f * row[at] for f, row in zip(factors, table)) % prime for at in range(width)))
    return found


def is_reduced(table):
    leads = []
    for row in table:
        filled = [at for at, rest in enumerate(row) if rest]
        if not filled or row[filled[0]] != 1:
            return False
        leads.append(filled[0])
    columns = all(sum(1 for row in table if row[lead]) == 1 for lead in leads)
    return columns and leads == sorted(set(leads))


def cleared(prime, table):
    """The reduced table, rest by rest."""
    rows, many = [list(row) for row in table], 0
    for column in range(len(rows[0])):
        filled = [at for at in range(many, len(rows)) if rows[at][column]]
        if filled:
            lead = rows.pop(filled[0])
            lead = [rest * pow(lead[column], -1, prime) % prime for rest in lead]
            rows = [[(rest - row[column] * led) % prime for rest, led in zip(row, lead)] for row in rows]
            rows.insert(many, lead)
            many += 1
    return tuple(tuple(row) for row in rows[:many])


class Primes(unittest.TestCase):

    def test_constants(self):
        self.assertEqual((rests.LEAST_PRIME, rests.MOST_PRIME, rests.MAX_SIDE), (5, 65521, 200))

    def test_all_small_numbers(self):
        sieve = [True] * 65600
        for number in range(2, 300):
            for multiple in range(number * number, 65600, number):
                sieve[multiple] = False
        for number in list(range(-10, 3000)) + list(range(64500, 65600)):
            self.assertIs(is_prime(number), 5 <= number <= 65521 and sieve[number], number)

    def test_edges(self):
        self.assertEqual([is_prime(number) for number in (4, 5, 6, 7, 65519, 65520, 65521, 65522, 65537)],
                         [False, True, False, True, True, False, True, False, False])

    def test_wrong(self):
        for wrong in wrong_values():
            self.assertIs(is_prime(wrong), False)
        self.assertIs(is_prime(65521 + 10 ** 199), False)


class Tables(unittest.TestCase):

    def test_is_table(self):
        for good in ((), ((),), ((), (), ()), ((0,),), ((6, 0), (1, 2)), ((0,) * 200,), ((0,),) * 200,
                     ((),) * 200, ((3,) * 200,) * 200):
            self.assertIs(is_table(7, good), True)
        for wrong in NO_TABLES:
            self.assertIs(is_table(7, wrong), False, repr(wrong)[:50])
        self.assertIs(is_table(7, ((),) * 201), False)
        self.assertIs(is_table(11, ((7,),)), True)

    def test_errors(self):
        goods = ((is_table, (7, ())), (rank, (7, ())), (reduced, (7, ())), (kernel, (7, ())),
                 (solution, (7, ((1,),), (1,))), (goal_bar, (7, ((1,),), (1,))), (is_goal_bar, (7, ((1,),), (1,), ())))
        for call, args in goods:
            refuses(self, call, args, 0, InvalidNumber, NO_PRIMES + wrong_values())
            if call is not is_table:
                refuses(self, call, args, 1, InvalidTable, NO_TABLES)
            if len(args) > 2:
                wrongs = wrong_values() + [(), (7,), (-1,), (1, 1), [1], 1, (True,)]
                refuses(self, call, args, 2, InvalidTable, wrongs)

    def test_goal_as_long_as_rows(self):
        table = ((1, 2, 3), (4, 5, 6))
        self.assertIsNotNone(solution(7, table, (1, 2)))
        caught(self, InvalidTable, solution, 7, table, (1, 2, 3))
        caught(self, InvalidTable, goal_bar, 7, table, (1,))
        caught(self, InvalidTable, solution, 7, (), (1,))

    def test_without_rows_or_columns(self):
        self.assertEqual([rank(5, ()), reduced(5, ()), kernel(5, ())], [0, (), ()])
        self.assertEqual([rank(5, ((), ())), reduced(5, ((), ())), kernel(5, ((), ()))], [0, (), ()])
        self.assertEqual([solution(5, (), ()), goal_bar(5, (), ())], [(), None])
        self.assertEqual([solution(5, ((), ()), (0, 0)), goal_bar(5, ((), ()), (0, 0))], [(), None])
        self.assertIsNone(solution(5, ((), ()), (0, 3)))
        found = goal_bar(5, ((), ()), (0, 3))
        self.assertEqual(found[1] * 3 % 5, 1)
        self.assertIs(is_goal_bar(5, ((), ()), (0, 3), (4, 2)), True)
        self.assertIs(is_goal_bar(5, ((), ()), (0, 3), (4, 1)), False)
        self.assertIs(is_goal_bar(5, (), (), ()), False)

    def test_reduced_and_kernel(self):
        chance = random.Random(1)
        for _ in range(150):
            prime = chance.choice((5, 7))
            rows, columns = chance.randint(1, 3), chance.randint(1, 3)
            table = random_table(chance, prime, rows, columns)
            small, null = reduced(prime, table), kernel(prime, table)
            self.assertTrue(is_reduced(small) and is_reduced(null))
            self.assertEqual(span(prime, table, columns), span(prime, small, columns))
            self.assertEqual(rank(prime, table), len(small))
            nulls = {vector for vector in every(range(prime), repeat=columns) if not any(times(prime, table, vector))}
            self.assertEqual(span(prime, null, columns), nulls)
            self.assertTrue(is_table(prime, small) and is_table(prime, null))

    def test_kernel_of_zeros_and_units(self):
        self.assertEqual(kernel(5, ((0, 0),)), ((1, 0), (0, 1)))
        self.assertEqual(kernel(5, ((1, 0), (0, 1))), ())

    def test_solution_or_bar(self):
        chance = random.Random(2)
        both = {True: 0, False: 0}
        for _ in range(300):
            prime = chance.choice((5, 7, 101, 65521))
            rows, columns = chance.randint(1, 6), chance.randint(1, 6)
            table = random_table(chance, prime, rows, columns)
            goal = tuple(chance.randrange(prime) for _ in range(rows))
            if chance.random() < 0.5:
                goal = times(prime, table, [chance.randrange(prime) for _ in range(columns)])
            found, shown = solution(prime, table, goal), goal_bar(prime, table, goal)
            self.assertNotEqual(found is None, shown is None)
            both[found is None] += 1
            if found is not None:
                self.assertEqual(times(prime, table, found), goal)
                leads = [[rest != 0 for rest in row].index(True) for row in reduced(prime, table)]
                self.assertFalse(any(found[at] for at in range(columns) if at not in leads))
                for wrong in (goal, (0,) * rows, (1,) * rows):
                    self.assertIs(is_goal_bar(prime, table, goal, wrong), False)
            else:
                self.assertIs(is_goal_bar(prime, table, goal, shown), True)
                self.assertFalse(any(times(prime, tuple(zip(*table)), shown)))
                self.assertEqual(times(prime, (goal,), shown), (1,))
                doubled = tuple(2 * rest % prime for rest in shown)
                self.assertIs(is_goal_bar(prime, table, goal, doubled), False)
        self.assertTrue(both[True] > 50 and both[False] > 50)

    def test_every_bar_is_judged(self):
        table, goal, prime = ((1, 2), (2, 4), (3, 1)), (1, 1, 1), 5
        for value in every(range(prime), repeat=3):
            good = not any(times(prime, tuple(zip(*table)), value)) and times(prime, (goal,), value) == (1,)
            self.assertIs(is_goal_bar(prime, table, goal, value), good)
        for wrong in wrong_values() + [(0, 0), (0, 0, 5), (-1, 0, 0), [3, 1, 0], (True, 0, 0), 3]:
            self.assertIs(is_goal_bar(prime, table, goal, wrong), False)
        self.assertIs(is_goal_bar(5, ((0,),), (1,), (1,)), True)
        self.assertIs(is_goal_bar(5, ((0,),), (1,), (True,)), False)

    def test_great_tables(self):
        chance = random.Random(3)
        prime = 65521
        table = tuple(tuple(chance.randrange(prime) for _ in range(200)) for _ in range(200))
        doubled = table[:199] + (table[0],)
        self.assertEqual([rank(prime, doubled), len(kernel(prime, doubled))], [199, 1])
        goal = (1,) + (0,) * 199
        self.assertIsNone(solution(prime, doubled, goal))
        self.assertIs(is_goal_bar(prime, doubled, goal, goal_bar(prime, doubled, goal)), True)

    def test_reduced_rest_by_rest(self):
        chance = random.Random(6)
        for prime in (5, 101, 65519, 65521):
            for rows, columns in ((1, 1), (1, 9), (9, 1), (7, 7), (12, 30), (30, 12), (40, 41)):
                # In a table of the greatest rests each one grows most on the way.
                for table in (random_table(chance, prime, rows, columns), ((prime - 1,) * columns,) * rows,
                              tuple(tuple(prime - 1 - (i * j + i) % 2 for j in range(columns)) for i in range(rows)),
                              tuple(tuple(chance.randint(prime - 3, prime - 1) for _ in range(columns)) for _ in range(rows))):
                    told = cleared(prime, table)
                    self.assertEqual((reduced(prime, table), rank(prime, table)), (told, len(told)))
        table = tuple(tuple(chance.randint(65500, 65520) for _ in range(200)) for _ in range(200))
        told = cleared(65521, table)
        self.assertEqual((reduced(65521, table), rank(65521, table)), (told, len(told)))

    def test_arguments_stay(self):
        table, goal = ((1, 2), (3, 4)), (5, 6)
        for call in (rank, reduced, kernel):
            self.assertEqual(call(7, table), call(7, table))
        solution(7, table, goal)
        self.assertEqual((table, goal), (((1, 2), (3, 4)), (5, 6)))


if __name__ == "__main__":
    unittest.main()
