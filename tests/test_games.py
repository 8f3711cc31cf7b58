"""Points 27, 28 and 29."""

from holdsalltrees.errors import BadVertex, DeadEnd
from holdsalltrees.games import Game
from tests.support import ODD_THINGS, Case, as_lists, as_mixed, seeded

LOOP = ((0,), (0,), ((0,),))


def fields(game):
    return (game.owners, game.priorities, game.successors)


def random_game(source, vertices, top=30):
    owners = [source.randint(0, 1) for _ in range(vertices)]
    priorities = [source.randint(0, top) for _ in range(vertices)]
    rows = [sorted(source.sample(range(vertices), source.randint(1, min(4, vertices)))) for _ in range(vertices)]
    return Game(owners, priorities, rows)


class GameTests(Case):
    def made(self, owners, priorities, successors):
        return fields(Game(owners, priorities, successors))

    def test_fields(self):
        self.same(self.ask(self.made, *LOOP), LOOP)
        big = (tuple(k % 2 for k in range(40)), tuple(k % 31 for k in range(40)), (tuple(range(40)),) * 40)
        self.same(self.ask(self.made, *big), big)
        self.same(self.ask(self.made, (0, 1), (30, 0), ((1,), (0, 1))), ((0, 1), (30, 0), ((1,), (0, 1))))

    def test_len(self):
        for vertices in (1, 2, 40):
            game = Game([0] * vertices, [0] * vertices, [[0]] * vertices)
            self.same(len(game), vertices)

    def test_the_game_without_vertices(self):
        game = Game([], [], [])
        self.same(fields(game), ((), (), ()))
        self.same((len(game), game.top, game.height, game.ceiling), (0, 0, 0, 2))
        self.same(fields(game.turned()), ((), (), ()))
        self.same(fields(game.restricted(())), ((), (), ()))
        self.assertTrue(game == Game((), (), ()))

    def test_arguments_are_copied(self):
        owners, priorities, successors = [0, 1], [2, 3], [[1], [0, 1]]
        game = Game(owners, priorities, successors)
        self.same((owners, priorities, successors), ([0, 1], [2, 3], [[1], [0, 1]]))
        owners[0] = 1
        priorities.append(7)
        successors[0].append(5)
        successors[1] = [0]
        self.same(fields(game), ((0, 1), (2, 3), ((1,), (0, 1))))

    def test_top_height_and_ceiling(self):
        for top in range(31):
            for priorities in ([top], [top, 0], [0, top, top // 2]):
                vertices = len(priorities)
                game = Game([0] * vertices, priorities, [[0]] * vertices)
                ceiling = min(p for p in range(0, 40, 2) if p > top)
                self.same((game.top, game.height, game.ceiling), (top, (top + 1) // 2, ceiling))
        self.same([Game([0], [p], [[0]]).height for p in range(5)], [0, 1, 1, 2, 2])
        self.same([Game([0], [p], [[0]]).ceiling for p in range(5)], [2, 2, 4, 4, 6])

    def test_equal_games(self):
        for way in (as_lists, lambda value: as_mixed(value, True), lambda value: as_mixed(value, False)):
            self.same(Game(*LOOP) == Game(*way(LOOP)), True)
            self.same(Game(*LOOP) != Game(*way(LOOP)), False)
        game = Game((0, 1), (2, 1), ((0, 1), (1,)))
        others = [
            Game((1, 1), (2, 1), ((0, 1), (1,))),
            Game((0, 1), (2, 0), ((0, 1), (1,))),
            Game((0, 1), (2, 1), ((0, 1), (0,))),
            Game((0, 1), (2, 1), ((0, 1), (0, 1))),
            Game((), (), ()),
            Game(*LOOP),
        ]
        for other in others:
            self.same((game == other, other == game), (False, False))
            self.same((game != other, other != game), (True, True))

    def test_values_that_are_no_games(self):
        game = Game(*LOOP)
        for value in ODD_THINGS + [0, 1, LOOP, as_lists(LOOP), "game", Game, BadVertex(0)]:
            self.same(game == value, False)
            self.same(value == game, False)
            self.same(game != value, True)


class BadVertexTests(Case):
    def bad(self, vertex, owners, priorities, successors):
        for passed in ((owners, priorities, successors), (tuple(owners), tuple(priorities), tuple(successors))):
            with self.assertRaises(BadVertex) as caught:
                Game(*passed)
            self.same(vars(caught.exception), {"vertex": vertex})

    def put(self, values, vertex, value):
        return values[:vertex] + [value] + values[vertex + 1:]

    def test_wrong_owners(self):
        for owner in ODD_THINGS + [2, -1, 10 ** 40, -10 ** 40]:
            for vertex in range(3):
                self.bad(vertex, self.put([0, 1, 0], vertex, owner), [0, 0, 0], [[0], [1], [2]])

    def test_wrong_priorities(self):
        for priority in ODD_THINGS + [31, -1, 10 ** 40, -10 ** 40]:
            for vertex in range(3):
                self.bad(vertex, [0, 1, 0], self.put([0, 30, 7], vertex, priority), [[0], [1], [2]])
        Game([0], [30], [[0]])

    def test_rows_that_are_no_rows(self):
        rows = [thing for thing in ODD_THINGS if thing not in ((1,), [1])]
        rows += [0, 2, 10 ** 40, "012", "a", range(2), {0: 1}, {0, 1}, b"\x00", iter([0]), (item for item in (0,))]
        for row in rows:
            for vertex in range(3):
                self.bad(vertex, [0, 1, 0], [0, 0, 0], self.put([[0], [1], [2]], vertex, row))

    def test_rows_with_wrong_items(self):
        for item in ODD_THINGS + [3, -1, 10 ** 40, -10 ** 40]:
            for row in ([item], [0, item], [item, 2], [0, 1, item], (0, item, 2)):
                for vertex in range(3):
                    self.bad(vertex, [0, 1, 0], [0, 0, 0], self.put([[0], [1], [2]], vertex, row))

    def test_rows_that_do_not_ascend(self):
        for row in ([], (), [1, 0], [0, 0], [2, 2], [0, 2, 1], [0, 1, 1], [1, 2, 0], (2, 1)):
            for vertex in range(3):
                self.bad(vertex, [0, 1, 0], [0, 0, 0], self.put([[0], [1], [2]], vertex, row))
        for row in ([0], [1], [2], [0, 1], [0, 2], [1, 2], [0, 1, 2]):
            self.same(Game([0] * 3, [0] * 3, [row] * 3).successors, (tuple(row),) * 3)

    def test_the_first_such_vertex(self):
        self.bad(0, [2, 0, 0], [0, -1, 0], [[0], [1], []])
        self.bad(0, [0, 2, 0], [-1, 0, 0], [[0], [1], []])
        self.bad(0, [0, 2, 0], [0, -1, 0], [[], [1], [2]])
        self.bad(1, [0, 0, 2], [0, 0, -1], [[0], [True], []])
        self.bad(1, [0, 0, 2], [0, None, 0], [[0], [0], [0]])
        self.bad(2, [0, 0, 0], [0, 0, 0], [[0, 1, 2], [2], [3]])
        self.bad(39, [0] * 39 + [True], [0] * 40, [[39]] * 40)
        self.bad(39, [0] * 40, [30] * 39 + [31], [list(range(40))] * 40)
        self.bad(0, [0] * 40, [30] * 39 + [31], [list(range(41))] + [[0]] * 39)

    def test_arguments_are_not_changed(self):
        arguments = [[0, True], [0, 0], [[1], [0, [5]]]]
        self.assertRaises(BadVertex, Game, *arguments)
        self.same(arguments, [[0, True], [0, 0], [[1], [0, [5]]]])


class TurnedAndRestrictedTests(Case):
    def test_turned(self):
        source = seeded("turned")
        for vertices in (1, 2, 12, 40):
            game = random_game(source, vertices, 29)
            before = fields(game)
            turned = game.turned()
            self.same(turned.owners, tuple(1 - owner for owner in game.owners))
            self.same(turned.priorities, tuple(priority + 1 for priority in game.priorities))
            self.same(turned.successors, game.successors)
            self.same((turned.top, turned.height), (game.top + 1, (game.top + 2) // 2))
            self.assertTrue(turned == game.turned())
            self.same(fields(game), before)
        self.same(fields(Game([0], [29], [[0]]).turned()), ((1,), (30,), ((0,),)))

    def test_restricted(self):
        game = Game([0, 1, 0, 1], [4, 3, 2, 1], [[0, 1], [2, 3], [0, 3], [1, 2, 3]])

        def restricted(vertices):
            return fields(game.restricted(vertices))

        self.same(self.ask(restricted, (0, 1, 2, 3)), fields(game))
        self.same(self.ask(restricted, ()), ((), (), ()))
        self.same(self.ask(restricted, (0,)), ((0,), (4,), ((0,),)))
        self.same(self.ask(restricted, (3,)), ((1,), (1,), ((0,),)))
        self.same(self.ask(restricted, (1, 3)), ((1, 1), (3, 1), ((1,), (0, 1))))
        self.same(self.ask(restricted, (0, 2, 3)), ((0, 0, 1), (4, 2, 1), ((0,), (0, 2), (1, 2))))
        self.refuses(DeadEnd(1), restricted, (1,))
        self.refuses(DeadEnd(1), restricted, (0, 1))
        self.refuses(DeadEnd(2), restricted, (2,))
        lost = Game([0] * 4, [0] * 4, [[3], [3], [0], [3]])
        self.refuses(DeadEnd(0), lost.restricted, (0, 1))
        self.refuses(DeadEnd(1), lost.restricted, (1, 2))
        self.refuses(DeadEnd(0), lost.restricted, (0, 2))
        self.same(fields(lost.restricted((1, 3))), ((0, 0), (0, 0), ((1,), (1,))))

    def test_restricted_random_games(self):
        source = seeded("restricted")
        for _ in range(200):
            game = random_game(source, source.randint(1, 9))
            chosen = [vertex for vertex in range(len(game)) if source.random() < 0.7]
            before = fields(game)
            rows = [[goal for goal in game.successors[vertex] if goal in chosen] for vertex in chosen]
            dead = [vertex for vertex, row in zip(chosen, rows) if not row]
            if dead:
                self.refuses(DeadEnd(dead[0]), game.restricted, chosen)
            else:
                part = game.restricted(chosen)
                self.same(part.owners, tuple(game.owners[vertex] for vertex in chosen))
                self.same(part.priorities, tuple(game.priorities[vertex] for vertex in chosen))
                self.same(part.successors, tuple(tuple(chosen.index(goal) for goal in row) for row in rows))
            self.same(fields(game), before)

    def test_restricted_40_vertices(self):
        game = Game([0] * 40, list(range(31)) + [0] * 9, [list(range(40))] * 40)
        part = game.restricted(list(range(1, 40, 2)))
        self.same(part.priorities, tuple(game.priorities[1::2]))
        self.same(part.successors, (tuple(range(20)),) * 20)
