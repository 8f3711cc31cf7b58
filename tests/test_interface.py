"""The interface: names, arguments, and where they are defined."""

import importlib
import inspect
import unittest

FUNCTIONS = {
    "trees": [
        "tree_height(tree)", "leaf_count(tree)", "leaf_paths(tree)", "is_full(tree, depth)", "filled(tree, depth)",
        "row_of(tree, depth)", "tree_of_row(row, depth)", "all_rows(leaves, depth)",
    ],
    "embeddings": ["holds(big, small)", "embedding(big, small)", "is_embedding(big, small, paths)"],
    "treetexts": ["tree_text(tree)", "read_tree(text)"],
    "branchings": ["branching_number(tree)", "fork(tree, rows)", "is_fork(tree, paper, rows)"],
    "sizes": ["universal_size(leaves, height, *, branching=None)", "size_bound(leaves, height, *, branching=None)"],
    "placements": ["placement(tree, universal)", "is_placement(tree, universal, codes)"],
    "complete": [
        "least_missing(tree, leaves, depth)", "capacity(tree, depth)", "pruned(tree, depth, many)",
        "lower_number(leaves, depth)", "least_complete(leaves, depth)",
    ],
    "gametexts": ["game_text(game)", "read_game(text)"],
    "attractors": [
        "attractor(game, player, goal, *, within=None)", "attractor_plan(game, player, goal, *, within=None)",
        "is_trap(game, player, vertices, *, within=None)",
    ],
    "plays": [
        "winner_of(game, lead, ring)", "duel(game, first, second, start)", "losing_play(game, player, plan, start)",
    ],
    "rankings": ["is_ranking(game, order, ranks)", "plan_of_ranking(game, order, ranks)"],
    "climbing": ["climb(game, order, *, start=None)"],
    "solving": ["winners(game)"],
    "verdicts": ["verdict(game)"],
    "decompositions": [
        "vertices_of(decomposition)", "tree_of(decomposition)", "is_decomposition(game, decomposition)",
        "plan_of(game, decomposition)",
    ],
    "conversions": ["ranking_of(game, decomposition)", "decomposition_of(game, tree, ranks)"],
    "decomposing": ["decompose_by(game, tree)"],
    "numbering": ["decompose(game, number)", "numbers(game)"],
    "registers": [
        "start_row(game, registers)", "raised(row, priority)", "emptied(row, which, priority)",
        "signal(which, value)",
    ],
    "registerplans": [
        "is_register_plan(game, registers, vertices, plan)", "is_register_answer(game, registers, vertices, answer)",
    ],
    "registergames": [
        "register_verdict(game, registers)", "register_wins(game, vertex, row)", "fewest_registers(game)",
    ],
    "planmaking": ["register_plan(game, decomposition)"],
    "watchers": ["watcher_of(tree, height, priorities)"],
    "faults": ["watcher_fault(watcher, vertices)", "kept_vertices(game, watcher)"],
    "watchertrees": ["watcher_tree(watcher)"],
    "objectivetexts": ["read_objective(text)", "objective_text(objective)"],
    "splittrees": ["split_tree(objective, colours)"],
    "automata": ["automaton_of(objective, colours)"],
    "automatonfaults": ["automaton_fault(automaton, objective)", "separate_states(automaton, objective)"],
    "arenas": [
        "objective_game(arena, objective)", "arena_winners(arena, objective)", "arena_plan(arena, objective, player)",
    ],
    "programs": [
        "read_program(text)", "possible(program, state)", "owner_of(program, state)", "colour_of(program, state)",
    ],
    "explorations": ["explore(program, *, limit)"],
    "deeds": ["after_deed(game, deed)", "favours(game, deed)"],
    "benches": ["favoured(bench)", "perform_all(bench, script)", "in_trial(trial, items)"],
    "matches": ["replay(game, log)"],
}

CLASSES = {
    ("universals", "UniversalTree"): [
        "__init__(self, leaves, height, *, branching=None)", "after(self, code)", "before(self, code)",
        "less(self, one, two)", "grown(self)", "codes(self)", "allows(self, rank, priority, other)",
        "needed(self, rank, priority)", "kept(self, rank, priority)", "__contains__(self, value)",
    ],
    ("drawntrees", "DrawnTree"): [
        "__init__(self, tree, height)", "less(self, one, two)", "allows(self, rank, priority, other)",
        "needed(self, rank, priority)", "kept(self, rank, priority)",
    ],
    ("games", "Game"): [
        "__init__(self, owners, priorities, successors)", "__len__(self)", "__eq__(self, other)", "turned(self)",
        "restricted(self, vertices)",
    ],
    ("verdicts", "Verdict"): [],
    ("registergames", "RegisterVerdict"): [],
    ("watchers", "Watcher"): [
        "__init__(self, priorities, rows, *, start=0)", "__call__(self, sequence, state=None)",
    ],
    ("faults", "Fault"): [],
    ("objectives", "Objective"): [
        "inf(cls, colour)", "always(cls)", "never(cls)", "__and__(self, other)", "__or__(self, other)",
        "__invert__(self)", "__eq__(self, other)", "good(self, colours)",
    ],
    ("automata", "Automaton"): ["__init__(self, colours, rows, *, start=0)"],
    ("arenas", "Arena"): ["__init__(self, owners, colours, successors)", "__len__(self)"],
    ("arenas", "ObjectiveGame"): [],
    ("programs", "Program"): [],
    ("explorations", "Exploration"): [],
    ("benches", "Bench"): [
        "__init__(self, game)", "__len__(self)", "__iter__(self)", "perform(self, deed)", "undo(self)",
        "verdict(self)", "numbers(self)",
    ],
    ("benches", "Trial"): ["__init__(self, bench)", "__enter__(self)", "__exit__(self, kind, value, trace)"],
    ("matches", "Match"): [
        "__init__(self, game, start, *, player)", "answer(self)", "go(self, successor)", "promise(self)",
    ],
}

GENERATORS = [("trees", "all_rows")]


def module_of(name):
    return importlib.import_module("holdsalltrees." + name)


class InterfaceTests(unittest.TestCase):
    def judge(self, place, name, text):
        function = vars(place)[text.split("(")[0]]
        if isinstance(function, classmethod):
            self.assertIn("(cls", text)
            function = function.__func__
        self.assertTrue(inspect.isfunction(function), text)
        self.assertEqual(function.__module__, "holdsalltrees." + name)
        self.assertEqual(function.__name__ + str(inspect.signature(function)), text)
        return function

    def test_functions(self):
        for name, texts in FUNCTIONS.items():
            for text in texts:
                self.judge(module_of(name), name, text)

    def test_classes_define_their_methods_themselves(self):
        for (name, kind), texts in CLASSES.items():
            found = getattr(module_of(name), kind)
            self.assertEqual(found.__module__, "holdsalltrees." + name)
            for text in texts:
                self.judge(found, name, text)

    def test_generators(self):
        for name, function in GENERATORS:
            self.assertTrue(inspect.isgeneratorfunction(getattr(module_of(name), function)))
        self.assertTrue(inspect.isgeneratorfunction(module_of("universals").UniversalTree.codes))
