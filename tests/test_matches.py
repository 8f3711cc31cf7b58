"""Points 82, 83 and 84."""

from holdsalltrees.errors import NoSuchMove, NotAPlay, NotYourMove
from holdsalltrees.games import Game
from holdsalltrees.matches import Match, replay
from holdsalltrees.solving import winners
from tests.searches import FOUR_LOOPS, TWO_LOOPS, drawn_game, winners_by_plans
from tests.support import Case, has_list, seeded
from tests.test_games import fields


def state(match):
    return (match.vertex, match.log, match.to_move, match.promise())


class MatchTests(Case):
    def test_the_example(self):
        self.example("""
>>> from holdsalltrees.games import Game
>>> from holdsalltrees.matches import Match, replay
>>> game = Game([0, 1], [2, 1], [[0, 1], [0, 1]])
>>> match = Match(game, 1, player=0)
>>> [match.go(0), match.answer(), match.log, match.promise(), replay(game, (1, 0, 0, 1))]
[0, 0, (1, 0, 0), True, ((1,), (0,))]
""")

    def play(self, source, game, start, player, moves, won):
        """A match against a player who moves at random, or as far into the vertices it wins as it can."""
        before = fields(game)
        match = Match(game, start, player=player)
        log = [start]
        answers = {}
        clever = source.random() < 0.3
        for _ in range(moves):
            vertex = log[-1]
            self.same(state(match), (vertex, tuple(log), game.owners[vertex], won[vertex] == player))
            if game.owners[vertex] == player:
                self.fails(match, NotYourMove(vertex), match.go, game.successors[vertex][0])
                self.fails(match, NotYourMove(vertex), match.go, len(game))
                found = match.answer()
                self.assertIn(found, game.successors[vertex])
                self.same(answers.setdefault(vertex, found), found)
                if won[vertex] != player:
                    self.same(found, game.successors[vertex][0])
            else:
                self.fails(match, NotYourMove(vertex), match.answer)
                row = game.successors[vertex]
                for wrong in {-1, len(game), 10 ** 30} | set(range(len(game))) - set(row):
                    self.fails(match, NoSuchMove(wrong), match.go, wrong)
                good = [u for u in row if won[u] != player] if clever else row
                step = source.choice(good or row)
                found = match.go(step)
                self.same(found, step)
            log.append(found)
        self.same(state(match), (log[-1], tuple(log), game.owners[log[-1]], won[log[-1]] == player))
        self.assertFalse(has_list(match.log))
        self.same(fields(game), before)
        self.judge_log(game, player, won, log)
        return match

    def fails(self, match, error, function, *args):
        before = state(match)
        with self.assertRaises(type(error)) as caught:
            function(*args)
        self.same(vars(caught.exception), vars(error))
        self.same(state(match), before)

    def judge_log(self, game, player, won, log):
        promised = [i for i, vertex in enumerate(log) if won[vertex] == player]
        if not promised:
            return
        first = promised[0]
        self.same(promised, list(range(first, len(log))))
        # For each place, the greatest priority up to each later place with the same vertex.
        for k in range(first, len(log)):
            most = -1
            for m in range(k + 1, min(len(log), k + 60)):
                most = max(most, game.priorities[log[m - 1]])
                if log[m] == log[k]:
                    self.same(most % 2, player)

    def test_drawn_matches(self):
        source = seeded("matches")
        kept = set()
        for _ in range(250):
            game = drawn_game(source, source.randint(1, 6), 8)
            won = winners_by_plans(game)
            for player in (0, 1):
                match = self.play(source, game, source.randrange(len(game)), player, 40, won)
                kept.add((match.promise(), won[match.log[0]] == player))
        # Won from the beginning, won after a bad move of the caller, and never won.
        self.assertEqual(kept, {(True, True), (True, False), (False, False)})

    def test_12_vertices_and_399_moves(self):
        source = seeded("long matches")
        for most in (2, 3, 12):
            for player in (0, 1):
                game = drawn_game(source, 12, 8, most)
                self.play(source, game, source.randrange(12), player, 399, winners(game))
        for game in (FOUR_LOOPS, TWO_LOOPS, FOUR_LOOPS.turned()):
            for player in (0, 1):
                match = self.play(source, game, 0, player, 399, winners(game))
                self.same(len(match.log), 400)

    def test_each_start(self):
        source = seeded("starts of matches")
        for _ in range(30):
            game = drawn_game(source, 5, 8)
            won = winners(game)
            for start in range(5):
                for player in (0, 1):
                    self.same(state(Match(game, start, player=player)),
                              (start, (start,), game.owners[start], won[start] == player))
                    self.play(source, game, start, player, 12, won)

    def test_equal_matches(self):
        source = seeded("equal matches")
        for _ in range(60):
            game = drawn_game(source, source.randint(2, 8), 8)
            twin = Game(list(game.owners), list(game.priorities), [list(row) for row in game.successors])
            start, player = source.randrange(len(game)), source.randint(0, 1)
            one, two = Match(game, start, player=player), Match(twin, start, player=player)
            for _ in range(60):
                if one.to_move == player:
                    self.same(one.answer(), two.answer())
                else:
                    step = source.choice(game.successors[one.vertex])
                    self.same(one.go(step), two.go(step))
                self.same(state(one), state(two))

    def test_the_order_of_the_errors(self):
        game = Game([0, 1], [2, 1], [[0, 1], [0, 1]])
        match = Match(game, 0, player=0)
        for successor in (0, 1, 2, -1):
            self.fails(match, NotYourMove(0), match.go, successor)
        match = Match(game, 0, player=1)
        self.fails(match, NotYourMove(0), match.answer)
        for successor in (2, -1, 10 ** 40):
            self.fails(match, NoSuchMove(successor), match.go, successor)
        self.same(match.go(1), 1)
        self.fails(match, NotYourMove(1), match.go, 5)

    def test_a_move_that_gives_the_game_away(self):
        # At the vertex 0 the caller is player 1, who should stay.
        game = Game([1, 0, 0], [1, 2, 3], [[0, 1], [0, 1, 2], [0]])
        match = Match(game, 0, player=0)
        self.same(match.promise(), False)
        match.go(0)
        self.same(match.promise(), False)
        match.go(1)
        self.same(match.promise(), True)
        self.same([match.answer() for _ in range(5)], [1] * 5)
        self.same(match.promise(), True)

    def test_the_least_successor_where_all_is_lost(self):
        game = Game([0, 0, 1], [1, 3, 5], [[1, 2], [0, 2], [0, 1, 2]])
        match = Match(game, 0, player=0)
        self.same([match.answer() for _ in range(4)], [1, 0, 1, 0])
        self.same(match.promise(), False)


def replay_by_words(game, log):
    for index, vertex in enumerate(log):
        if vertex not in range(len(game)):
            return ("NotAPlay", {"index": index})
        if index + 1 < len(log) and log[index + 1] not in game.successors[vertex]:
            return ("NotAPlay", {"index": index})
    for many in range(len(log) + 1):
        begin = log[:many]
        if len(set(begin)) < many:
            first = begin.index(begin[-1])
            return ("answer", (tuple(begin[:first]), tuple(begin[first:-1])))
    return ("answer", None)


class ReplayTests(Case):
    def judge(self, game, log):
        before = fields(game)
        found = self.told(replay, (game, log), {})
        self.same(found, replay_by_words(game, log))
        self.assertFalse(has_list(found[1]))
        self.same(fields(game), before)
        return found

    def test_the_empty_log(self):
        for game in (Game([], [], []), TWO_LOOPS):
            self.same(self.ask(replay, game, ()), None)
        self.refuses(NotAPlay(0), replay, Game([], [], []), (0,))

    def test_logs_of_matches(self):
        source = seeded("replays")
        for _ in range(80):
            game = drawn_game(source, source.randint(1, 8), 8)
            player = source.randint(0, 1)
            match = Match(game, source.randrange(len(game)), player=player)
            for _ in range(source.choice((0, 1, 3, 20))):
                if match.to_move == player:
                    match.answer()
                else:
                    match.go(source.choice(game.successors[match.vertex]))
            self.judge(game, match.log)
            kind, play = self.judge(game, match.log)
            if play is not None:
                lead, ring = play
                self.same((lead + ring)[: len(match.log)], match.log[: len(lead + ring)])

    def test_one_fault_at_each_place(self):
        source = seeded("faults in logs")
        for _ in range(12):
            game = drawn_game(source, source.randint(2, 6), 4)
            log = [source.randrange(len(game))]
            for _ in range(15):
                log.append(source.choice(game.successors[log[-1]]))
            for place in range(len(log)):
                for wrong in (-1, len(game), 99, 10 ** 30, *range(len(game))):
                    self.judge(game, log[:place] + [wrong] + log[place + 1:])

    def test_the_whole_log_is_looked_at(self):
        game = Game([0, 0, 0], [0, 0, 0], [[0, 1], [2], [0]])
        self.same(self.ask(replay, game, (0, 0)), ((), (0,)))
        self.refuses(NotAPlay(2), replay, game, (0, 0, 1, 1))
        self.refuses(NotAPlay(3), replay, game, (0, 0, 1, 2, 5))
        self.refuses(NotAPlay(0), replay, game, (0, 7))
        self.refuses(NotAPlay(0), replay, game, (3,))
        self.refuses(NotAPlay(0), replay, game, (-1,))
        self.refuses(NotAPlay(0), replay, game, (-1, 2))
        self.same(self.ask(replay, game, (0, 1, 2, 0, 0)), ((), (0, 1, 2)))
        self.same(self.ask(replay, game, (1, 2, 0, 0, 1)), ((1, 2), (0,)))
        self.same(self.ask(replay, game, (1, 2, 0)), None)
        self.same(self.ask(replay, game, (2,)), None)

    def test_400_numbers(self):
        game = Game([0] * 40, [0] * 40, [[(v + 1) % 40] for v in range(40)])
        log = tuple((v + 7) % 40 for v in range(400))
        self.same(self.ask(replay, game, log), ((), log[:40]))
        self.same(self.ask(replay, game, log[:40]), None)
        self.refuses(NotAPlay(398), replay, game, log[:399] + (log[398],))
        loop = Game([0] * 40, [0] * 40, [[min(v + 1, 39)] for v in range(40)])
        self.same(self.ask(replay, loop, tuple(range(40)) + (39,) * 360), (tuple(range(39)), (39,)))
