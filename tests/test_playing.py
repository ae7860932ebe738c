"""Games that are played, by callers and by strangers. (0.2 to 0.5, 4.4)"""

import copy
import itertools
import random
import unittest

from levelkin.errors import (
    BadPlay, KinError, NoIndex, NoLevel, NoNumber, NoOrder, NoPlace, NothingDone, NoTurn, OtherWeb, Over,
)
from levelkin.games import hold, plan
from levelkin.playing import Game, by_hold, by_plan, played
from levelkin.webs import Web, beside, renamed

from tests.second_games import is_won_by_words, next_standings
from tests.test_colours import NO_LEVELS
from tests.test_games import pairs_of_webs
from tests.test_portraits import SIX, TWO
from tests.things import PATH, bare, path, ring, told_error, wrong_things

SAME = (0, 1, 2)
NO_ORDERS = ((0, 1), (0, 1, 2, 3), (0, 1, 1), (1, 2, 3), (-1, 0, 1), (0, True, 2), (False, 1, 2), [0, 1, 2], "012",
             {0: 0, 1: 1, 2: 2}, ((0, 1, 2),))
NO_PLACES = (3, -1, True, False, None, "0", (0,), [0], 10 ** 29, -(10 ** 29))


def state(game):
    return game.standing(), game.is_won(), game.turns()


class Turns(unittest.TestCase):
    def refuse(self, game, call, given, error):
        before = state(game)
        self.assertEqual(told_error(call, *given), (error, {}), given)
        self.assertEqual(state(game), before)

    def test_the_begin(self):
        for level in (1, 2, 3):
            game = Game(PATH, PATH, level)
            self.assertEqual(state(game), (((), ()), False, ()))
            self.assertIs(type(game.standing()), tuple)
            self.assertIs(game.is_won(), False)

    def test_places_are_put_behind_and_then_exchanged(self):
        game = Game(ring(6), ring(6), 2)
        shift = (1, 2, 3, 4, 5, 0)
        for place, index, standing in ((0, None, ((0,), (1,))), (3, None, ((0, 3), (1, 4))), (5, 0, ((5, 3), (0, 4))),
                                       (5, 1, ((5, 5), (0, 0))), (2, 1, ((5, 2), (0, 3)))):
            self.assertIsNone(game.tell(shift))
            self.assertIsNone(game.take(place, index))
            self.assertEqual((game.standing(), game.is_won()), (standing, False))
        self.assertEqual(game.turns(), tuple(
            (shift, place, index) for place, index in ((0, None), (3, None), (5, 0), (5, 1), (2, 1))))
        self.assertTrue(all(type(turn) is tuple for turn in game.turns()))

    def test_the_second_tells_first(self):
        game = Game(PATH, PATH, 1)
        for given in ((0, None), (3, None), (None, 0)):
            self.refuse(game, game.take, given, NoTurn)
        game.tell(SAME)
        for given in (SAME, (2, 1, 0), None, (0, 0)):
            self.refuse(game, game.tell, (given,), NoTurn)
        game.take(1, None)
        self.refuse(game, game.take, (1, 0), NoTurn)
        self.assertEqual(game.turns(), ((SAME, 1, None),))

    def test_wrong_orders(self):
        game = Game(PATH, PATH, 1)
        for thing in [*wrong_things(), *NO_ORDERS]:
            self.refuse(game, game.tell, (thing,), NoOrder)
        game.tell(SAME)
        game.take(0, None)
        self.assertEqual(game.standing(), ((0,), (0,)))

    def test_wrong_places_ahead_of_wrong_indexes(self):
        game = Game(PATH, PATH, 1)
        game.tell(SAME)
        for thing in [*wrong_things(), *NO_PLACES]:
            self.refuse(game, game.take, (thing, None), NoPlace)
            self.refuse(game, game.take, (thing, 0), NoPlace)
        for place in range(3):
            for thing in [thing for thing in wrong_things() if thing is not None] + [0, 1]:
                self.refuse(game, game.take, (place, thing), NoIndex)
        game.take(2, None)
        self.assertEqual(game.turns(), ((SAME, 2, None),))

    def test_an_index_just_if_the_rows_are_full(self):
        for level in (1, 2, 3):
            game = Game(PATH, PATH, level)
            for at in range(level):
                game.tell(SAME)
                for index in range(-1, 5):
                    self.refuse(game, game.take, (0, index), NoIndex)
                game.take(at, None)
            game.tell(SAME)
            for index in [*wrong_things(), None, level, -1, True, False, "0", (0,)]:
                self.refuse(game, game.take, (0, index), NoIndex)
            game.take(0, level - 1)
            self.assertEqual(game.standing(), (tuple(range(level - 1)) + (0,),) * 2)

    def test_a_wrong_index_is_refused_where_looks_are_unlike_too(self):
        game = Game(Web(2, (0, 0), ()), Web(2, (0, 1), ()), 1)
        game.tell((0, 1))
        self.refuse(game, game.take, (1, 0), NoIndex)
        game.take(1, None)
        self.assertIs(game.is_won(), True)
        game = Game(PATH, PATH, 1)
        game.tell(SAME)
        game.take(0, None)
        game.tell((0, 2, 1))
        self.refuse(game, game.take, (1, None), NoIndex)
        self.refuse(game, game.take, (1, 1), NoIndex)
        game.take(1, 0)
        self.assertIs(game.is_won(), True)

    def test_a_won_game(self):
        game = Game(PATH, PATH, 1)
        game.tell(SAME)
        game.take(0, None)
        game.tell((0, 2, 1))
        game.take(1, 0)
        won = (((0,), (0,)), True, ((SAME, 0, None), ((0, 2, 1), 1, 0)))
        self.assertEqual(state(game), won)
        for given in (SAME, None, (0, 0, 0)):
            self.refuse(game, game.tell, (given,), Over)
        for given in ((0, 0), (9, 9), (None, None)):
            self.refuse(game, game.take, given, Over)
        game.back()
        self.assertEqual(state(game), (((0,), (0,)), False, ((SAME, 0, None),)))
        self.refuse(game, game.take, (0, 0), NoTurn)
        game.tell(SAME)
        game.take(1, 0)
        self.assertEqual(state(game), (((1,), (1,)), False, ((SAME, 0, None), (SAME, 1, 0))))

    def test_by_words(self):
        chance = random.Random(71)
        wins = 0
        for one, other in pairs_of_webs(16, 4):
            level = chance.randrange(1, 4)
            game = Game(one, other, level)
            standing = ((), ())
            for _ in range(6):
                order = tuple(chance.sample(range(one.many), one.many))
                place = chance.randrange(one.many)
                index = None if len(standing[0]) < level else chance.randrange(level)
                game.tell(order)
                self.assertEqual(game.standing(), standing)
                game.take(place, index)
                if is_won_by_words(one, other, standing, place, order[place]):
                    self.assertEqual((game.is_won(), game.standing()), (True, standing))
                    wins += 1
                    break
                standing = next_standings(level, standing, place, order[place])[index or 0]
                self.assertEqual((game.is_won(), game.standing()), (False, standing))
        self.assertGreater(wins, 20)


class Back(unittest.TestCase):
    def test_at_the_begin(self):
        game = Game(PATH, PATH, 2)
        self.assertEqual(told_error(game.back), (NothingDone, {}))
        game.tell(SAME)
        self.assertIsNone(game.back())
        self.assertEqual(told_error(game.back), (NothingDone, {}))
        self.assertEqual(told_error(game.take, 0, None), (NoTurn, {}))
        self.assertEqual(state(game), (((), ()), False, ()))

    def test_behind_an_order_alone_and_behind_whole_turns(self):
        game = Game(ring(4), ring(4), 2)
        order = (0, 1, 2, 3)
        states = [state(game)]
        for place, index in ((0, None), (1, None), (2, 0), (3, 1), (3, 1)):
            game.tell(order)
            game.take(place, index)
            states.append(state(game))
        # The order alone is taken back first: the whole turns are there still.
        game.tell((3, 2, 1, 0))
        for due in reversed(states):
            game.back()
            self.assertEqual(state(game), due)
        self.assertEqual(told_error(game.back), (NothingDone, {}))

    def test_one_behind_another(self):
        game = Game(PATH, PATH, 1)
        game.tell(SAME)
        game.take(0, None)
        game.tell(SAME)
        game.back()
        self.assertEqual(state(game), (((0,), (0,)), False, ((SAME, 0, None),)))
        game.tell((2, 1, 0))
        game.take(1, 0)
        self.assertEqual(state(game), (((1,), (1,)), False, ((SAME, 0, None), ((2, 1, 0), 1, 0))))
        game.back()
        self.assertEqual(state(game), (((0,), (0,)), False, ((SAME, 0, None),)))
        game.back()
        self.assertEqual(state(game), (((), ()), False, ()))
        self.assertEqual(told_error(game.back), (NothingDone, {}))

    def test_turns_that_were_told_stay_as_they_were(self):
        game = Game(PATH, PATH, 1)
        game.tell(SAME)
        game.take(0, None)
        turns = game.turns()
        game.back()
        self.assertEqual(turns, ((SAME, 0, None),))


class Copy(unittest.TestCase):
    def test_a_copy_goes_on_apart(self):
        game = Game(PATH, PATH, 1)
        game.tell(SAME)
        game.take(0, None)
        game.tell(SAME)
        other = game.copy()
        self.assertIs(type(other), Game)
        self.assertEqual(state(other), state(game))
        other.take(1, 0)
        self.assertEqual(game.standing(), ((0,), (0,)))
        self.assertEqual(other.standing(), ((1,), (1,)))
        game.back()
        game.back()
        self.assertEqual(state(game), (((), ()), False, ()))
        self.assertEqual(state(other), (((1,), (1,)), False, ((SAME, 0, None), (SAME, 1, 0))))
        other.back()
        self.assertEqual(state(other), (((0,), (0,)), False, ((SAME, 0, None),)))

    def test_of_a_won_game(self):
        game = Game(Web(1, (0,), ()), Web(1, (1,), ()), 3)
        game.tell((0,))
        game.take(0, None)
        other = game.copy()
        self.assertEqual(state(other), (((), ()), True, (((0,), 0, None),)))
        self.assertEqual(told_error(other.tell, (0,)), (Over, {}))
        other.back()
        self.assertEqual((game.is_won(), other.is_won()), (True, False))

    def test_games_know_their_own_webs(self):
        game = Game(PATH, ring(3), 2).copy()
        for place, index in ((0, None), (1, None)):
            game.tell(SAME)
            game.take(place, index)
        game.tell(SAME)
        game.take(2, 0)
        self.assertIs(game.is_won(), True)
        self.assertEqual(game.standing(), ((0, 1), (0, 1)))


class Making(unittest.TestCase):
    def test_errors(self):
        for level in [*NO_LEVELS, *wrong_things()]:
            self.assertEqual(told_error(Game, PATH, PATH, level), (NoLevel, {}))
            self.assertEqual(told_error(Game, PATH, bare(2), level), (NoLevel, {}))
            self.assertEqual(told_error(played, PATH, bare(2), level, None, None, None), (NoLevel, {}))
        for level in (1, 2, 3):
            self.assertEqual(told_error(Game, bare(2), bare(3), level), (OtherWeb, {}))
            self.assertEqual(told_error(Game, bare(3), bare(2), level), (OtherWeb, {}))
            self.assertEqual(told_error(played, bare(3), bare(2), level, None, None, -1), (OtherWeb, {}))

    def test_large_webs(self):
        game = Game(ring(40), ring(40), 3)
        for place in range(3):
            game.tell(tuple(range(40)))
            game.take(place, None)
        self.assertEqual(game.standing(), ((0, 1, 2), (0, 1, 2)))


class Stop(Exception):
    pass


class Played(unittest.TestCase):
    def test_right_turns(self):
        seen = []

        def second(standing):
            seen.append(standing)
            return SAME

        def first(standing, order):
            seen.append((standing, order))
            return len(seen) % 3, None if len(standing[0]) < 1 else 0

        before = copy.deepcopy(PATH)
        won, turns = played(PATH, PATH, 1, first, second, 3)
        self.assertEqual((won, turns), (False, ((SAME, 2, None), (SAME, 1, 0), (SAME, 0, 0))))
        self.assertEqual(seen, [((), ()), (((), ()), SAME), ((2,), (2,)), (((2,), (2,)), SAME), ((1,), (1,)),
                                (((1,), (1,)), SAME)])
        self.assertEqual(PATH, before)

    def test_the_end_of_a_won_game(self):
        one, other = Web(1, (0,), ()), Web(1, (1,), ())
        due = (True, (((0,), 0, None),))
        for most in (1, 2, 1000):
            self.assertEqual(played(one, other, 1, lambda standing, order: (0, None), lambda standing: (0,), most), due)
        self.assertEqual(played(one, other, 1, lambda standing, order: (0, None), lambda standing: (0,), 0),
                         (False, ()))

    def test_kinds_of_values(self):
        found = played(PATH, PATH, 1, lambda standing, order: (0, None if standing == ((), ()) else 0),
                       lambda standing: SAME, 2)
        self.assertIs(type(found), tuple)
        self.assertIs(found[0], False)
        self.assertIs(type(found[1]), tuple)

    def test_most(self):
        def first(standing, order):
            return 0, None if standing == ((), ()) else 0

        for most in (0, 1, 999, 1000):
            won, turns = played(PATH, PATH, 1, first, lambda standing: SAME, most)
            self.assertEqual((won, len(turns)), (False, most))
        for thing in [*wrong_things(), 1001, -1, True, False, None, "1", (1,)]:
            self.assertEqual(told_error(played, PATH, PATH, 1, first, lambda standing: SAME, thing), (NoNumber, {}))
            self.assertEqual(told_error(played, PATH, PATH, 1, None, None, thing), (NoNumber, {}))

    def test_wrong_orders(self):
        for thing in [*wrong_things(), *NO_ORDERS]:
            told = iter([SAME, SAME, thing])
            self.assertEqual(
                told_error(played, PATH, PATH, 1, lambda standing, order: (1, None if standing == ((), ()) else 0),
                           lambda standing: next(told), 9),
                (BadPlay, {"who": "second", "turns": ((SAME, 1, None), (SAME, 1, 0))}))
            self.assertEqual(told_error(played, PATH, PATH, 1, None, lambda standing: thing, 9),
                             (BadPlay, {"who": "second", "turns": ()}))

    def test_wrong_places_and_indexes(self):
        things = [*wrong_things(), (0,), (0, None, None), [0, None], (3, None), (-1, None), (True, None), (None, None),
                  (0, 0), (0, True), (0, "0"), ((0,), None), {0: None}, 0, None, (0, False), (0, -1)]
        for thing in things:
            self.assertEqual(told_error(played, PATH, PATH, 1, lambda standing, order: thing, lambda standing: SAME, 9),
                             (BadPlay, {"who": "first", "turns": ()}), thing)
        for thing in [*wrong_things(), (0, None), (0, 1), (0, -1), (0, True), (0, False), (3, 0), [0, 0], (0,),
                      (0, 0, 0)]:
            told = iter([(2, None), (1, 0), thing])
            self.assertEqual(
                told_error(played, PATH, PATH, 1, lambda standing, order: next(told), lambda standing: SAME, 9),
                (BadPlay, {"who": "first", "turns": ((SAME, 2, None), (SAME, 1, 0))}), thing)

    def test_errors_of_strangers_go_on(self):
        def bad(*told):
            raise Stop()

        def kin(*told):
            raise NoOrder()

        with self.assertRaises(Stop):
            played(PATH, PATH, 1, bad, lambda standing: SAME, 3)
        with self.assertRaises(Stop):
            played(PATH, PATH, 1, None, bad, 3)
        self.assertEqual(told_error(played, PATH, PATH, 1, kin, lambda standing: SAME, 3), (NoOrder, {}))
        self.assertEqual(told_error(played, PATH, PATH, 1, None, kin, 3), (NoOrder, {}))
        self.assertFalse(issubclass(Stop, KinError))


def chance_second(chance, many):
    return lambda standing: tuple(chance.sample(range(many), many))


def chance_first(chance, many, level):
    def first(standing, order):
        return chance.randrange(many), None if len(standing[0]) < level else chance.randrange(level)
    return first


class Players(unittest.TestCase):
    def test_by_a_hold_the_second_never_loses(self):
        chance = random.Random(72)
        games = 0
        for one, other in [*pairs_of_webs(14, 4), (SIX, TWO), (SIX, renamed(SIX, (3, 1, 5, 0, 2, 4)))]:
            for level in (1, 2, 3):
                found = hold(one, other, level)
                if found is not None:
                    for _ in range(4):
                        won, turns = played(one, other, level, chance_first(chance, one.many, level),
                                            by_hold(found), 25)
                        self.assertEqual((won, len(turns)), (False, 25))
                        games += 1
        self.assertGreater(games, 50)

    def test_by_a_plan_the_first_wins_in_its_rounds(self):
        chance = random.Random(73)
        longer = beside(path(4), ring(3)), beside(ring(4), path(3))
        games = 0
        # Of two rings against one plans of level 2 are led on by either index.
        rings = [(ring(many), beside(ring(many // 2), ring(many // 2))) for many in (8, 10, 12)]
        for one, other in [*pairs_of_webs(14, 4), (SIX, TWO), longer, (path(7), longer[0]), *rings]:
            for level in (1, 2, 3):
                found = plan(one, other, level)
                if found:
                    first = by_plan(one, other, level, found)
                    for _ in range(8):
                        won, turns = played(one, other, level, first, chance_second(chance, one.many), 1000)
                        self.assertIs(won, True)
                        self.assertLessEqual(len(turns), found[((), ())][0])
                        games += 1
        self.assertGreater(games, 200)

    def test_by_a_plan_against_all_orders(self):
        # The second player tells each order at each turn.
        for one, other in ((PATH, ring(3)), (path(4), beside(path(2), path(2))),
                           (Web(2, (0, 0), ()), Web(2, (0, 1), ()))):
            for level in (1, 2):
                found = plan(one, other, level)
                first = by_plan(one, other, level, found)
                left = [Game(one, other, level)]
                while left:
                    game = left.pop()
                    for order in itertools.permutations(range(one.many)):
                        after = game.copy()
                        after.tell(order)
                        after.take(*first(after.standing(), order))
                        if not after.is_won():
                            self.assertLess(len(after.turns()), found[((), ())][0])
                            left.append(after)

    def test_plans_with_rounds_to_spare(self):
        found = {standing: (rounds + 4, mine, yours) for standing, (rounds, mine, yours) in plan(SIX, TWO, 2).items()}
        chance = random.Random(74)
        for _ in range(20):
            won, turns = played(SIX, TWO, 2, by_plan(SIX, TWO, 2, found), chance_second(chance, 6), 1000)
            self.assertIs(won, True)
            self.assertLessEqual(len(turns), 7)

    def test_a_plan_that_comes_back_to_a_standing_with_more_rounds(self):
        # Standings of the plan with more rounds must not be chosen although they are there.
        base = plan(SIX, TWO, 2)
        rows = [((p, p), (q, q)) for p in range(6) for q in range(6)]
        more = {pair: (9, base[((), ())][1], base[((), ())][2]) for pair in rows}
        chance = random.Random(75)
        first = by_plan(SIX, TWO, 2, {**more, **base})
        for _ in range(20):
            won, turns = played(SIX, TWO, 2, first, chance_second(chance, 6), 1000)
            self.assertEqual((won, len(turns) <= 3), (True, True))

    def test_players_keep_copies(self):
        found = hold(SIX, TWO, 1)
        second = by_hold(found)
        found.clear()
        won, turns = played(SIX, TWO, 1, chance_first(random.Random(1), 6, 1), second, 30)
        self.assertEqual((won, len(turns)), (False, 30))
        book = plan(SIX, TWO, 2)
        first = by_plan(SIX, TWO, 2, book)
        book.clear()
        book[((), ())] = (1, (5,), ())
        won, turns = played(SIX, TWO, 2, first, chance_second(random.Random(2), 6), 1000)
        self.assertEqual((won, len(turns) <= 3), (True, True))

    def test_players_are_new(self):
        found = hold(PATH, PATH, 1)
        self.assertIsNot(by_hold(found), by_hold(found))
        book = plan(PATH, ring(3), 1)
        self.assertIsNot(by_plan(PATH, ring(3), 1, book), by_plan(PATH, ring(3), 1, book))
        before = copy.deepcopy((found, book))
        by_hold(found)(((), ()))
        by_plan(PATH, ring(3), 1, book)(((), ()), SAME)
        self.assertEqual((found, book), before)

    def test_strangers_of_two_games_do_not_mix(self):
        one = by_hold(hold(PATH, PATH, 1))
        other = by_hold(hold(PATH, renamed(PATH, (1, 0, 2)), 1))
        self.assertEqual(played(PATH, PATH, 1, chance_first(random.Random(3), 3, 1), one, 20)[0], False)
        self.assertEqual(
            played(PATH, renamed(PATH, (1, 0, 2)), 1, chance_first(random.Random(3), 3, 1), other, 20)[0], False)


if __name__ == "__main__":
    unittest.main()
