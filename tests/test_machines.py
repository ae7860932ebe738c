"""Machines without names, and the eighth fact. (0.2 to 0.5, 7.1)"""

import copy
import random
import unittest

from levelkin.colours import charts_of, history
from levelkin.errors import BadMachine, NoMachine, NoNumber, NoWebs
from levelkin.machines import best, states
from levelkin.webs import Web, beside, renamed

from tests.second import rounds_by_words
from tests.second_machines import is_told_by_words, states_by_words
from tests.things import PATH, bare, both_ways, chance_web, nested, path, ring, small_webs, told_error, wrong_things

NO_ROUNDS = [-1, 101, 10 ** 29, True, False, None, "1", (1,), [1], {}]


def same_state(state, heard):
    return state


def itself(state):
    return state


def bad(turn, place):
    return BadMachine, {"round": turn, "place": place}


# The number of ties that a place has, then sums of what the places say to which ties lead.
SUMS = (
    lambda look: 1,
    itself,
    lambda state, heard: state + sum(letter for look, letter in heard if (0, 0, 1) in look[2]) % 1000,
)
# All that was heard, as a text.
WHOLE = (
    lambda look: str(look),
    itself,
    lambda state, heard: str(hash_of(state + str(heard))),
)
# Words of unlike lengths, in tuples.
TUPLES = (
    lambda look: (look[0][0], ("x" * len(look[2]),)),
    lambda state: (state, len(state)),
    lambda state, heard: (state[0] + 1, (str(len(heard)), state[1][0] + "y")),
)
ROUNDS = (lambda look: (0, look), lambda state: state[0], lambda state, heard: (state[0] + 1, tuple(heard)))


def hash_of(text):
    number = 0
    for sign in text:
        number = (number * 31 + ord(sign)) % (10 ** 9 + 7)
    return number


class States(unittest.TestCase):
    def check(self, web, machine, rounds):
        before = copy.deepcopy(web)
        found = states(web, machine, rounds)
        self.assertEqual(found, states_by_words(web, machine, rounds))
        self.assertEqual(web, before)
        self.assertIs(type(found), list)
        self.assertTrue(all(type(row) is tuple and len(row) == web.many for row in found))
        self.assertEqual(len(found), rounds + 1)
        again = states(web, machine, rounds)
        self.assertEqual(again, found)
        found.clear()
        self.assertEqual(states(web, machine, rounds), again)

    def test_machines_by_words(self):
        for web in [*small_webs(25, 5), PATH, ring(6), bare(1), bare(40), path(9)]:
            for machine in (SUMS, WHOLE, TUPLES, ROUNDS):
                self.check(web, machine, 3)

    def test_what_is_told(self):
        self.assertEqual(states(PATH, SUMS, 2), [(1, 1, 1), (2, 3, 2), (5, 7, 5)])
        self.assertEqual(states(PATH, ROUNDS, 0), [((0, ((0,), (), ())),) * 3])

    def test_what_is_heard(self):
        told = []

        def step(state, heard):
            told.append((state, heard))
            return state

        web = Web(2, (3, 5), ((0, 0, 1), (1, 1, 1)))
        states(web, (lambda look: look[0][0], lambda state: (state, "s"), step), 1)
        self.assertEqual(sorted(told), [
            (3, [(((3, 3), ((0, 1),), ()), (3, "s")), (((3, 5), (), ((0, 0, 1), (1, 1, 1))), (5, "s"))]),
            (5, [(((5, 3), (), ((0, 1, 0), (1, 0, 0))), (3, "s")),
                 (((5, 5), ((0, 1),), ((1, 0, 0), (1, 0, 1), (1, 1, 0), (1, 1, 1))), (5, "s"))]),
        ])
        self.assertTrue(all(type(heard) is list for _, heard in told))

    def test_heard_is_ascending_and_each_as_often_as_it_comes(self):
        counts = []
        states(bare(4), (lambda look: 0, lambda state: 7, lambda state, heard: counts.append(heard) or 0), 1)
        self.assertEqual(counts, [[(((0, 0), (), ()), 7)] * 3 + [(((0, 0), ((0, 1),), ()), 7)]] * 4)

    def test_no_rounds_and_100(self):
        self.check(PATH, SUMS, 0)
        self.assertEqual(states(PATH, (lambda look: 4, None, None), 0), [(4, 4, 4)])
        found = states(ring(3), (lambda look: 0, itself, lambda state, heard: state + 1), 100)
        self.assertEqual(found, [(turn,) * 3 for turn in range(101)])

    def test_places_with_one_colour_have_one_state(self):
        chance = random.Random(91)
        webs = [web for web in small_webs(30, 6)] + [ring(6), beside(ring(3), ring(3)), path(7), PATH]
        for _ in range(30):
            one, other = chance.sample(webs, 2)
            told = history(charts_of([one, other], 1)[1])
            told += [told[-1]] * 4
            for machine in (SUMS, WHOLE, TUPLES):
                rows = [states(web, machine, 4) for web in (one, other)]
                for turn in range(5):
                    known = {}
                    for web, numbers in enumerate(told[turn]):
                        for place, number in enumerate(numbers[1:]):
                            known.setdefault(number, rows[web][turn][place])
                            self.assertEqual(known[number], rows[web][turn][place])

    def test_errors_of_functions_go_on(self):
        class Mine(Exception):
            pass

        def fail(*given):
            raise Mine()

        for machine in ((fail, itself, same_state), (len, fail, same_state), (len, itself, fail)):
            with self.assertRaises(Mine):
                states(PATH, machine, 1)
        for wrong in (ValueError, IndexError, KeyError, TypeError, RecursionError):
            def wrong_step(state, heard):
                raise wrong("own")

            with self.assertRaises(wrong):
                states(PATH, (len, itself, wrong_step), 1)

    def test_what_is_no_triple(self):
        machine = (len, itself, same_state)
        for thing in [*wrong_things(), list(machine), machine[:2], (*machine, len), {0: len, 1: itself, 2: same_state},
                      (machine,), len, "abc"]:
            for rounds in (0, 5, 101, None):
                self.assertEqual(told_error(states, PATH, thing, rounds), (NoMachine, {}))

    def test_wrong_rounds(self):
        for thing in [*NO_ROUNDS, *wrong_things()]:
            self.assertEqual(told_error(states, PATH, (len, itself, same_state), thing), (NoNumber, {}))
            self.assertEqual(told_error(states, PATH, (None, None, None), thing), (NoNumber, {}))


NONE = [
    True, False, None, [], [1], {}, {1: 1}, b"", b"a", range(2), (None,), (True,), ([],), (1, (2, [])), ("a", b"a"),
    ValueError("x"), BadMachine(0, 0), Web(1, (0,), ()), nested(lambda thing: (thing,), 11),
    nested(lambda thing: (thing,), 40), nested(lambda thing: [thing], 40), (1, 2, (False,)), object(), int, len,
]
SOME = [
    0, -5, 10 ** 30 - 1, "", "a", "~" * 100, (), ((),), (1, "a"), (("a", 1), ()), nested(lambda thing: (thing,), 10),
    nested(lambda thing: ("a", thing, 1), 10), (0,) * 1000,
]


class BadMachines(unittest.TestCase):
    def check(self, web, machine, rounds):
        due = states_by_words(web, machine, rounds)
        if isinstance(due, list):
            self.assertEqual(states(web, machine, rounds), due)
        else:
            self.assertEqual(told_error(states, web, machine, rounds), bad(*due))
        return due

    def test_first_states(self):
        for thing in NONE:
            self.assertEqual(told_error(states, PATH, (lambda look: thing, itself, same_state), 0), bad(0, 0))
            machine = (lambda look: thing if look[0][0] == 2 else 0, itself, same_state)
            self.assertEqual(told_error(states, Web(4, (0, 1, 2, 2), ()), machine, 3), bad(0, 2))
        for thing in SOME:
            self.assertEqual(states(PATH, (lambda look: thing, itself, same_state), 2), [(thing,) * 3] * 3)

    def test_letters(self):
        for thing in NONE:
            machine = (lambda look: look[0][0], lambda state: thing if state else 0, same_state)
            self.assertEqual(told_error(states, Web(3, (0, 1, 1), ()), machine, 1), bad(1, 1))
            self.assertEqual(states(Web(3, (0, 1, 1), ()), machine, 0), [(0, 1, 1)])
        for thing in SOME:
            machine = (lambda look: 0, lambda state: thing, lambda state, heard: tuple(heard)[0][1])
            self.assertEqual(states(PATH, machine, 1), [(0,) * 3, (thing,) * 3])

    def test_next_states(self):
        for thing in NONE:
            machine = (lambda look: look[0][0], itself, lambda state, heard: thing if state > 6 else state + 2)
            self.assertEqual(told_error(states, Web(3, (0, 3, 3), ()), machine, 9), bad(3, 1))
            self.assertEqual(told_error(states, Web(3, (0, 9, 3), ()), machine, 9), bad(1, 1))

    def test_ten_deep_and_eleven(self):
        machine = (lambda look: 0, lambda state: 0, lambda state, heard: (state,))
        self.assertEqual(states(PATH, machine, 10)[10], (nested(lambda thing: (thing,), 10),) * 3)
        self.assertEqual(told_error(states, PATH, machine, 11), bad(11, 0))
        machine = (lambda look: 0, lambda state: nested(lambda thing: (thing,), state), lambda state, heard: state + 1)
        machine = (lambda look: 9, machine[1], machine[2])
        self.assertEqual(len(states(PATH, machine, 2)), 3)
        self.assertEqual(told_error(states, PATH, machine, 3), bad(3, 0))
        self.assertTrue(is_told_by_words(nested(lambda thing: (thing,), 10)))
        empty = nested(lambda thing: (thing,) if thing else (), 10)
        self.assertEqual(states(bare(1), (lambda look: empty, itself, same_state), 1), [(empty,), (empty,)])

    def letters(self, hues, table):
        machine = (lambda look: look[0][0], lambda state: table[state], same_state)
        return Web(len(hues), hues, ()), machine, 1

    def test_letters_that_cannot_be_ordered(self):
        for one, other in ((1, "a"), (1, ()), ("a", ()), ((1,), ("a",)), ((1, 2), (1, "a")),
                           ((0, (1,)), (0, (1, 2), 3)), ((1, (2, "a")), (1, (2, 3))), (((),), (0,)), (("",), ((),)),
                           ((1, 2, "a"), (1, 2, 3, 4)),
                           ((1, "a", 5), (1, 2, 6))):
            for hues in ((0, 1), (1, 0), (0, 0, 1), (0, 1, 1, 0)):
                due = self.check(*self.letters(hues, (one, other)))
                if isinstance(due, tuple):
                    self.assertEqual(due, (1, 0))
                else:
                    self.assertEqual((one, other), ((0, (1,)), (0, (1, 2), 3)))
        for one, other in ((1, 2), ("a", "b"), ((), (1,)), ((), ("a",)), ((1, "a"), (2, 3)), ((1, 2), (1,)),
                           (("a", 1), ("b", "c")), (((1,), "a"), ((1, 2), 3)), ((1,), (1,)), ("", "a"), (5, 5),
                           ((0, ("x", 1)), (0, ("y", "z")))):
            self.assertEqual(len(self.check(*self.letters((0, 1, 0), (one, other)))), 2)

    def test_any_two_of_a_round(self):
        # In the order in which they are sorted no two neighbours show that 2 and 0 cannot be ordered.
        table = ((1, "a"), (1, 5), (0, 0), (2, 0))
        for hues in ((2, 0, 3, 1), (0, 2, 3, 1), (3, 2, 1, 0), (2, 3, 0, 1)):
            self.assertEqual(self.check(*self.letters(hues, table)), (1, 0))
        self.assertEqual(len(self.check(*self.letters((2, 0, 3, 0), table))), 2)

    def test_which_of_two_is_due(self):
        # A letter that is none is due ahead of letters that cannot be ordered, these ahead of a state that is none.
        web = Web(4, (0, 1, 2, 3), ())
        begin = lambda look: look[0][0]
        none = lambda state, heard: None
        letters = (5, "a", None, 0)
        self.assertEqual(told_error(states, web, (begin, lambda state: letters[state], none), 1), bad(1, 2))
        self.assertEqual(told_error(states, web, (begin, lambda state: "abc"[:state] or 0, none), 1), bad(1, 0))
        step = lambda state, heard: None if state > 1 else 0
        self.assertEqual(told_error(states, web, (begin, itself, step), 1), bad(1, 2))
        begin_late = lambda look: None if look[0][0] == 3 else 0
        self.assertEqual(told_error(states, web, (begin_late, lambda state: None, none), 1), bad(0, 3))
        # An earlier round is due ahead of a later one.
        step = lambda state, heard: state + 4 if state < 8 else [] if state == 8 else "a"
        self.assertEqual(told_error(states, web, (begin, itself, step), 9), bad(3, 0))
        step = lambda state, heard: state + 4 if state < 8 else "a" if state == 8 else 5
        self.assertEqual(told_error(states, web, (begin, itself, step), 9), bad(4, 0))

    def test_by_chance_by_words(self):
        chance = random.Random(92)
        seen = {list: 0, tuple: 0}
        things = [0, 1, 2, "a", "b", (0,), (0, "a"), (0, 1), ("a",), ((0,), 1), (), None, True]
        for _ in range(600):
            web = chance_web(chance, chance.randrange(1, 5), 4, 1, 3)
            firsts = [chance.choice(things[:10]) for _ in range(4)]
            some = things[:3] if chance.randrange(3) else things[chance.choice([0, 3, 5]):]
            letters = [chance.choice(some) for _ in range(7)]
            nexts = [chance.choice(things[:12 if chance.randrange(6) else 13]) for _ in range(9)]
            machine = (
                lambda look: firsts[look[0][0]],
                lambda state: letters[hash_of(str(state)) % 7],
                lambda state, heard: nexts[hash_of(str(state) + str(heard)) % 9],
            )
            seen[type(self.check(web, machine, 3))] += 1
        self.assertGreater(min(seen.values()), 60)


class Best(unittest.TestCase):
    def check(self, webs, rounds=5):
        before = copy.deepcopy(webs)
        machine = best(webs)
        self.assertEqual(webs, before)
        self.assertIs(type(machine), tuple)
        told = history(charts_of(webs, 1)[1])
        told += [told[-1]] * (rounds + 1)
        for at, web in enumerate(webs):
            due = [tuple((turn, number) for number in told[turn][at][1:]) for turn in range(rounds + 1)]
            self.assertEqual(states(web, machine, rounds), due)
            self.assertEqual(states(web, machine, rounds), due)

    def test_by_words(self):
        for web in small_webs(12, 4):
            self.check_by_words([web])
        for one, other in zip(small_webs(10, 4), small_webs(20, 4)[10:]):
            self.check_by_words([one, other])
            self.check_by_words((other, one, PATH))

    def check_by_words(self, webs):
        machine = best(webs)
        told = rounds_by_words(webs, 1, 4)
        for at, web in enumerate(webs):
            due = [tuple((turn, tables[at][place,]) for place in range(web.many)) for turn, tables in enumerate(told)]
            self.assertEqual(states(web, machine, 4), due)

    def test_one_two_and_three_webs_as_a_list_and_as_a_tuple(self):
        for webs in ([PATH], (PATH,), [PATH, ring(5)], (PATH, bare(2)), [PATH, path(8), ring(3)], (PATH, PATH, PATH),
                     [path(20), both_ways(6, [(0, 1), (1, 2), (1, 3)])], [bare(1)], [bare(40), ring(40), path(40)]):
            self.check(webs)

    def test_the_last_round_and_behind_it(self):
        self.check([path(30)], 40)
        self.check([path(9), path(10)], 100)

    def test_large_webs_by_chance(self):
        chance = random.Random(93)
        for _ in range(6):
            web = chance_web(chance, 25, 2, 2, 1)
            order = list(range(25))
            chance.shuffle(order)
            self.check([web, renamed(web, tuple(order)), chance_web(chance, 12, 2, 1, 2)])

    def test_a_new_one_each_time(self):
        one, other = best([PATH]), best([PATH])
        self.assertEqual(states(PATH, one, 3), states(PATH, other, 3))
        self.assertTrue(all(mine is not yours for mine, yours in zip(one, other)))

    def test_keeps_its_own(self):
        webs = [PATH, path(6)]
        machine = best(webs)
        due = states(PATH, machine, 4)
        webs.clear()
        self.assertEqual(states(PATH, machine, 4), due)

    def test_wrong_webs(self):
        for thing in [*wrong_things(), [], (), {0: PATH}, [[PATH]], [PATH] * 4, (PATH,) * 4, [PATH, None], PATH]:
            self.assertEqual(told_error(best, thing), (NoWebs, {}))


if __name__ == "__main__":
    unittest.main()
