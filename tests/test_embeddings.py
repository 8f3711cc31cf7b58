"""Point 10."""

import itertools

from holdsalltrees.embeddings import embedding, holds, is_embedding
from holdsalltrees.trees import leaf_count, leaf_paths, tree_height
from tests.support import Case, at, chain, nodes_of, perfect, random_tree, seeded, trees_to


def all_embeddings(big, small, path=()):
    """The images of the leaves in all embeddings of a subtree, tried one after the other."""
    if small == ():
        return [(path,)]
    found = []
    for places in itertools.combinations(range(len(at(big, path))), len(small)):
        below = [all_embeddings(big, child, path + (place,)) for child, place in zip(small, places)]
        found.extend(sum(choice, ()) for choice in itertools.product(*below))
    return found


def planted(source, small, more):
    """A tree that holds the small one: further children stand between those of `small`."""
    children = []
    for child in small:
        children.extend(() for _ in range(source.randrange(more)))
        children.append(planted(source, child, more))
    children.extend(() for _ in range(source.randrange(more)))
    return tuple(children)


class EmbeddingTests(Case):
    def test_the_examples(self):
        self.example("""
>>> from holdsalltrees.embeddings import embedding, is_embedding
>>> embedding((((),), ((), ()), ((),)), (((), ()), ((),)))
((1, 0), (1, 1), (2, 0))
>>> is_embedding(((), ()), ((),), [[1]])
True
""")

    def test_against_all_embeddings(self):
        trees = trees_to(6)
        for big in trees:
            for small in trees:
                found = all_embeddings(big, small)
                self.same(holds(big, small), bool(found))
                self.same(embedding(big, small), min(found, default=None))

    def test_small_trees_in_larger_ones(self):
        source = seeded("larger")
        smalls = trees_to(5)
        for _ in range(60):
            big = random_tree(source, 14, 4)
            for small in smalls:
                found = all_embeddings(big, small)
                self.same(holds(big, small), bool(found))
                self.same(embedding(big, small), min(found, default=None))

    def test_lists_and_tuples(self):
        trees = trees_to(4)
        for big in trees:
            for small in trees:
                found = all_embeddings(big, small)
                self.same(self.ask(holds, big, small), bool(found))
                self.same(self.ask(embedding, big, small), min(found, default=None))
                for paths in found:
                    self.same(self.ask(is_embedding, big, small, paths), True)

    def test_one_node(self):
        for tree in trees_to(5):
            self.same(holds(tree, ()), True)
            self.same(embedding(tree, ()), ((),))
            self.same(is_embedding(tree, (), ((),)), True)
            self.same(holds((), tree), tree == ())
            self.same(embedding((), tree), ((),) if tree == () else None)

    def test_papers_of_all_nodes(self):
        trees = trees_to(5)
        for big in trees:
            nodes = nodes_of(big)
            for small in trees:
                right = set(all_embeddings(big, small))
                for paths in itertools.product(nodes, repeat=leaf_count(small)):
                    self.same(is_embedding(big, small, paths), paths in right)

    def test_papers_with_the_wrong_number_of_paths(self):
        trees = trees_to(5)
        for big in trees:
            for small in trees:
                for paths in all_embeddings(big, small):
                    self.same(self.ask(is_embedding, big, small, paths[:-1]), False)
                    self.same(self.ask(is_embedding, big, small, paths + paths[-1:]), False)
                    self.same(self.ask(is_embedding, big, small, paths + ((),)), False)
                    self.same(self.ask(is_embedding, big, small, ()), False)

    def test_papers_that_are_wrong_in_one_item(self):
        big = ((), ((), ()), ((), ((), ()), ()), ((),))
        small = (((), ()), ((), ()))
        right = set(all_embeddings(big, small))
        self.assertEqual(len(right), 3)
        for paths in right:
            self.same(self.ask(is_embedding, big, small, paths), True)
            for leaf in range(len(paths)):
                for place in range(2):
                    for number in (-1, -2, -4, 0, 1, 2, 3, 4, 10 ** 30, -10 ** 30):
                        path = paths[leaf][:place] + (number,) + paths[leaf][place + 1:]
                        changed = paths[:leaf] + (path,) + paths[leaf + 1:]
                        self.same(self.ask(is_embedding, big, small, changed), changed in right)
                for path in (paths[leaf][:1], paths[leaf] + (0,), paths[leaf] + (-1,), (), (0,) * 14):
                    changed = paths[:leaf] + (path,) + paths[leaf + 1:]
                    self.same(self.ask(is_embedding, big, small, changed), False)

    def test_children_stay_below_one_node_and_in_order(self):
        big = (((), ()), ((), ()))
        small = (((), ()),)
        self.same(self.ask(is_embedding, big, small, ((0, 0), (0, 1))), True)
        self.same(self.ask(is_embedding, big, small, ((0, 0), (1, 1))), False)
        self.same(self.ask(is_embedding, big, small, ((0, 1), (0, 0))), False)
        self.same(self.ask(is_embedding, big, small, ((0, 0), (0, 0))), False)
        self.same(self.ask(is_embedding, big, ((), ()), ((0,), (1,))), True)
        self.same(self.ask(is_embedding, big, ((), ()), ((0,), (0,))), False)
        self.same(self.ask(is_embedding, big, ((), ()), ((0, 0), (1, 0))), False)
        self.same(self.ask(is_embedding, big, (((),), ((),)), ((0, 0), (0, 1))), False)

    def test_numbers_that_lead_nowhere(self):
        self.same(self.ask(is_embedding, ((), ()), ((),), ((-1,),)), False)
        self.same(self.ask(is_embedding, ((), ()), ((), ()), ((-2,), (-1,))), False)
        self.same(self.ask(is_embedding, ((), ()), ((),), ((10 ** 50,),)), False)
        self.same(self.ask(is_embedding, ((), ()), ((),), ((2,),)), False)


class LargeEmbeddingTests(Case):
    def judge(self, big, small, wanted):
        found = self.ask(embedding, big, small)
        self.same(self.ask(holds, big, small), wanted)
        self.same(found is not None, wanted)
        if wanted:
            self.same(self.ask(is_embedding, big, small, found), True)
            self.assertEqual([len(path) for path in found], [len(path) for path in leaf_paths(small)])
        return found

    def test_wide_trees_with_equal_children(self):
        found = self.judge(((),) * 599, ((),) * 599, True)
        self.same(found, tuple((index,) for index in range(599)))
        self.judge(((),) * 598, ((),) * 599, False)
        self.judge((((),),) * 299, (((),),) * 299, True)
        self.judge((((),),) * 299, (((),),) * 298 + (((), ()),), False)
        self.judge((((), ()),) * 199, (((), ()),) * 199, True)
        self.judge((((), ()),) * 199, (((), ()),) * 198 + (((),), ()), False)
        self.judge((((), ()),) * 199, (((), ()),) * 197 + (((),), ()), True)
        mixed = (((),), ((), ())) * 119
        found = self.judge(mixed, (((), ()),) * 119, True)
        self.same(found[2:4], ((3, 0), (3, 1)))
        self.judge(mixed, (((), ()),) * 120, False)

    def test_equal_children_at_several_depths(self):
        for height, many in ((8, 2), (5, 3), (4, 4), (3, 8), (2, 24), (12, 1)):
            big = perfect(height, many)
            self.same(self.judge(big, big, True), leaf_paths(big))
            self.judge(big, perfect(height, many)[1:] + ((), ()), False)
            lacking = big[:-1] + (perfect(height - 1, many)[:-1],)
            if many > 1:
                self.judge(lacking, big, False)
                self.judge(big, lacking, True)

    def test_deep_trees(self):
        self.same(self.judge(chain(12), chain(12), True), ((0,) * 12,))
        self.judge(chain(11), chain(12), False)
        self.same(self.judge(chain(12), chain(3), True), ((0,) * 3,))
        comb = ()
        for _ in range(12):
            comb = ((), comb, ())
        self.judge(comb, comb, True)
        self.same(self.judge(comb, chain(12), True), ((1,) * 11 + (0,),))
        forty = (chain(11),) * 40 + (chain(10),)
        self.judge(forty, (chain(11),) * 40, True)
        self.judge(forty, (chain(11),) * 41, False)
        self.judge(forty, (chain(10),) * 41, True)
        last = (chain(11),) * 49 + (chain(10, ((), ())),)
        self.same(self.judge(last, (chain(10, ((), ())),), True), ((49,) + (0,) * 11, (49,) + (0,) * 10 + (1,)))

    def test_planted_trees(self):
        source = seeded("planted")
        for height in (2, 4, 8, 12):
            for _ in range(5):
                small = random_tree(source, 150, height)
                big = planted(source, small, 3)
                found = self.judge(big, small, True)
                for paths in self.spoiled(source, found):
                    self.same(is_embedding(big, small, paths), False)

    def spoiled(self, source, paths):
        leaf = source.randrange(len(paths))
        yield paths[:leaf] + paths[leaf + 1:]
        yield paths[:leaf] + paths[leaf:leaf + 1] + paths[leaf:]
        for number in (-1, 10 ** 40):
            place = source.randrange(len(paths[leaf]))
            path = paths[leaf][:place] + (number,) + paths[leaf][place + 1:]
            yield paths[:leaf] + (path,) + paths[leaf + 1:]
        if len(paths) > 1:
            yield paths[::-1]
            yield paths[1:] + paths[:1]

    def test_random_trees_of_600_nodes(self):
        source = seeded("six hundred")
        for height in (1, 2, 3, 6, 12):
            big = random_tree(source, 600, height)
            self.judge(big, big, True)
            for nodes in (1, 5, 50, 600):
                small = random_tree(source, nodes, height)
                paths = embedding(big, small)
                self.same(holds(big, small), paths is not None)
                if paths is not None:
                    self.same(is_embedding(big, small, paths), True)
                    self.assertLessEqual(tree_height(small), tree_height(big))
