import random

from stubbornest.chainclasses import Chain
from stubbornest.counts import chain_counts
from stubbornest.errors import NotUsable
from stubbornest.listings import names_of
from stubbornest.members import member_at, members_of, within
from stubbornest.ranking import chain_number, nth_chain
from stubbornest.threes import partners_at, run_on
from tests import oracle
from tests.cases import Case
from tests.samples import DIAL, LONG, LONG_LADDERS, MIX, NO_NUMBERS, NONE, ODD, SMALL, SWITCH, TWO, WARN
from tests.test_walks import random_name


class Chains(Case):
    def test_example(self):
        self.same(Chain(TWO, ((0, 0), (0, 0))).up((1, 0)), (1, 1))

    def test_as_the_functions(self):
        for bench in SMALL:
            full = oracle.full_points(bench)
            for name, members in oracle.chains(bench).items():
                chain = Chain(bench, name)
                self.same(len(chain), len(members))
                self.same(chain.members(), members)
                self.same(chain.within(), within(bench, name))
                self.same(chain.number(), chain_number(bench, name))
                self.same(chain.run(), run_on(bench, name))
                for place in range(1, len(members) - 1):
                    self.same(chain.partners(place), partners_at(bench, name, place))
                for place, point in enumerate(members):
                    self.same(chain.up(point), members[place + 1] if place + 1 < len(members) else None)
                    self.same(chain.down(point=point), members[place - 1] if place else None)
                for point in full:
                    self.same(point in chain, point in members)
                    if point not in members:
                        self.fails(NotUsable, {"word": "point", "at": -1}, chain.up, point)
                        self.fails(NotUsable, {"word": "point", "at": -1}, chain.down, point)

    def test_any_value_in_it(self):
        chain = Chain(MIX, ((0, 0), (0, 0)))
        for thing in ODD + ([0, 0], (0, False), ((0, 0),), (0, 0, 0), chain, chain.members()):
            self.same(thing in chain, False)
            self.fails(NotUsable, {"word": "point", "at": -1}, chain.up, thing)
            self.fails(NotUsable, {"word": "point", "at": -1}, chain.down, point=thing)
        self.same(() in Chain(NONE, ()), True)

    def test_the_range_plays_no_part(self):
        chain = Chain(((DIAL, SWITCH), 3, 3, 1), ((0, 0), (0, 0)))
        self.same((0, 0) in chain, True)
        self.same(chain.up((0, 0)), (1, 0))
        self.same(len(chain), 4)
        self.same(chain.within(), (3, 1))

    def test_equal(self):
        chains = [(bench, name) for bench in SMALL[:8] for name in names_of(bench)]
        for one in chains:
            for other in chains:
                self.same(Chain(*one) == Chain(*other), one == other)
                self.same(Chain(*one) != Chain(*other), one != other)
            for thing in ODD + (one, one[1]):
                self.same(Chain(*one) == thing, False)
        self.same(Chain(TWO, ((0, 0), (0, 0))) == Chain(WARN, ((0, 0), (0, 0))), False)

    def test_following_to_none(self):
        for bench in SMALL:
            for size, many in chain_counts(bench):
                chain = Chain(bench, nth_chain(bench, size, 0))
                for number in range(many):
                    self.same(chain.number(), number)
                    self.same(chain == Chain(bench, nth_chain(bench, size, number)), True)
                    before = chain.members()
                    after = chain.following()
                    self.same(chain.members(), before)
                    chain = after
                self.same(chain, None)

    def test_refused_names(self):
        for thing in ODD + (((0, 0), (0, 2)), ((0, 0), (0, True)), [(0, 0), (0, 0)], ((0, 1), (0, 0))):
            self.fails(NotUsable, {"word": "name", "at": -1}, Chain, MIX, thing)
            self.fails(NotUsable, {"word": "name", "at": -1}, Chain, name=thing, bench=MIX)

    def test_refused_places(self):
        chain = Chain(MIX, ((0, 0), (0, 0)))
        for place in NO_NUMBERS + (0, 3, 10 ** 60 - 1):
            self.fails(NotUsable, {"word": "place", "at": -1}, chain.partners, place)
            self.fails(NotUsable, {"word": "place", "at": -1}, chain.partners, place=place)

    def test_long(self):
        rng = random.Random(14)
        for bench in LONG:
            name, size = random_name(rng, bench)
            chain = Chain(bench, name)
            self.same(len(chain), size)
            self.same(chain.within(), within(bench, name))
            self.same(chain.number(), chain_number(bench, name))
            self.same(chain.run(), run_on(bench, name))
            self.same(chain.members(), members_of(bench, name))
            point = member_at(bench, name, size // 2)
            self.same(point in chain, True)
            self.same(point[:-1] in chain, False)
            if size > 1:
                self.same(chain.up(chain.down(point)), point)
            after = chain.following()
            if after is not None:
                self.same(after.number(), chain.number() + 1)
                self.same(len(after), size)
        self.same(Chain(LONG_LADDERS, ((0, 0),) * 60).following(), None)
