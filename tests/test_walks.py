import itertools
import random

from stubbornest.benches import height
from stubbornest.errors import NotUsable
from stubbornest.members import member_at, members_of, next_down, next_up, within
from stubbornest.walks import chain_of, is_name, size_of
from tests import oracle
from tests.cases import Case
from tests.samples import (
    DIAL, LONG, LONG_FLATS, LONG_LADDERS, LONG_SWITCHES, MIX, NO_NUMBERS, NONE, ODD, PICK, SMALL, SWITCH, TWO,
)


def names_by_words(bench):
    """All names, by the words of is_name, out of all tuples of pairs of small numbers."""
    pairs = []
    for chart in bench[0]:
        many = max(len(row) for row in chart[1])
        pairs.append(list(itertools.product(range(len(chart[1])), range(many))))
    found = []
    for thing in itertools.product(*pairs):
        p, good = 0, True
        for chart, (c, i) in zip(bench[0], thing):
            q = len(chart[1][c]) - 1
            good = good and i <= p and i <= q
            p += q - 2 * i
        if good:
            found.append(thing)
    return found


def random_name(rng, bench):
    last, name = 0, []
    for chart in bench[0]:
        index = rng.randrange(len(chart[1]))
        hook = rng.randint(0, min(last, len(chart[1][index]) - 1))
        last += len(chart[1][index]) - 1 - 2 * hook
        name.append((index, hook))
    return tuple(name), last + 1


def matched_pairs(point):
    """The pairs of slots that match, 0 read as an opening and 1 as a closing bracket."""
    still, pairs = [], []
    for slot, level in enumerate(point):
        if level == 0:
            still.append(slot)
        elif still:
            pairs.append((still.pop(), slot))
    return sorted(pairs)


class Walks(Case):
    def test_examples(self):
        self.same(chain_of(MIX, (1, 1)), (((0, 0), (0, 1)), 1))
        self.same(is_name(MIX, ((0, 0), (0, 2))), False)
        self.same(members_of(TWO, ((0, 0), (0, 0))), ((0, 0), (1, 0), (1, 1)))
        self.same(chain_of(TWO, (0, 1)), (((0, 0), (0, 1)), 0))

    def test_the_walk(self):
        for bench in SMALL:
            for point in oracle.full_points(bench):
                name, place, size = oracle.walk(bench, point)
                self.same(chain_of(bench, point), (name, place))
                self.same(chain_of(point=point, bench=bench), (name, place))
                self.same(size_of(bench, name), size)
                self.same(is_name(bench, name), True)

    def test_names_by_their_words(self):
        for bench in SMALL:
            if len(bench[0]) <= 4:
                self.same(names_by_words(bench), sorted(oracle.chains(bench)))

    def test_every_tuple_that_is_no_name(self):
        for bench in (TWO, MIX, ((PICK, SWITCH), 0, 3, 1), ((DIAL, DIAL), 0, 4, 1)):
            good = set(oracle.chains(bench))
            pairs = list(itertools.product(range(-1, 5), range(-1, 4)))
            for thing in itertools.product(pairs, repeat=2):
                self.same(is_name(bench, thing), thing in good)

    def test_near_names(self):
        for bench in SMALL[2:]:
            for name in oracle.chains(bench):
                self.same(is_name(bench, list(name)), False)
                self.same(is_name(bench, name[1:]), False)
                self.same(is_name(bench, name + ((0, 0),)), False)
                for slot, (index, hook) in enumerate(name):
                    wrong = [
                        None, (), (index,), (index, hook, 0), [index, hook], (len(bench[0][slot][1]), hook), (index, 99),
                        (index, -1), (-1, hook), (index, str(hook)), (None, hook), (index, None), (index, bool(hook)),
                        (bool(index), hook), (10 ** 60 - 1, hook), (index, 10 ** 60 - 1), "00", index,
                    ]
                    for pair in wrong:
                        self.same(is_name(bench, name[:slot] + (pair,) + name[slot + 1:]), False, pair)

    def test_odd_values(self):
        for bench in (NONE, TWO, MIX):
            for thing in ODD:
                self.same(is_name(bench, thing), False)
                self.fails(NotUsable, {"word": "name", "at": -1}, size_of, bench, thing)
                self.fails(NotUsable, {"word": "point", "at": -1}, chain_of, bench, thing)
        self.same(is_name(thing=(), bench=NONE), True)
        self.same(is_name(bench=TWO, thing=()), False)
        self.same(size_of(NONE, ()), 1)
        self.same(chain_of(NONE, ()), ((), 0))
        self.fails(NotUsable, {"word": "name", "at": -1}, size_of, name=((0, 1), (0, 0)), bench=TWO)
        self.fails(NotUsable, {"word": "point", "at": -1}, chain_of, point=(0, 2), bench=TWO)

    def test_long(self):
        rng = random.Random(4)
        for bench in LONG:
            for _ in range(20):
                point = tuple(rng.randrange(len(chart[0])) for chart in bench[0])
                name, place, size = oracle.walk(bench, point)
                self.same(chain_of(bench, point), (name, place))
                self.same(size_of(bench, name), size)
                self.same(member_at(bench, name, place), point)
                self.same(is_name(bench, name[:59] + ((0, 64),)), False)
        self.same(size_of(LONG_LADDERS, ((0, 0),) * 60), 3781)
        self.same(size_of(LONG_FLATS, ((63, 0),) * 60), 1)

    def test_brackets(self):
        rng = random.Random(6)
        for slots in range(8):
            bench = ((SWITCH,) * slots, 0, slots, 1)
            names = {}
            for point in oracle.full_points(bench):
                name = chain_of(bench, point)[0]
                pairs = matched_pairs(point)
                self.same(names.setdefault(name, pairs), pairs)
            self.same(len(names), len({repr(pairs) for pairs in names.values()}))
        for _ in range(50):
            one = tuple(rng.randint(0, 1) for _ in range(60))
            for other in members_of(LONG_SWITCHES, chain_of(LONG_SWITCHES, one)[0]):
                self.same(matched_pairs(other), matched_pairs(one))


class Members(Case):
    def test_examples(self):
        self.same(members_of(MIX, ((0, 0), (0, 0))), ((0, 0), (1, 0), (2, 0), (2, 1)))
        self.same(within(((DIAL, SWITCH), 2, 3, 1), ((0, 0), (0, 1))), (1, 1))
        self.fails(NotUsable, {"word": "place", "at": -1}, member_at, MIX, ((0, 0), (0, 1)), 2)

    def test_there_and_back(self):
        for bench in SMALL:
            order = oracle.Order(bench)
            for name, members in oracle.chains(bench).items():
                self.same(members_of(bench, name), members)
                self.same(len(members), size_of(bench, name))
                for place, point in enumerate(members):
                    self.same(member_at(bench, name, place), point)
                    self.same(chain_of(bench, point), (name, place))
                    self.same(order.ranks[point], (height(bench) + 1 - len(members)) // 2 + place)
                    up = members[place + 1] if place + 1 < len(members) else None
                    self.same(next_up(bench, point), up)
                    self.same(next_down(bench, point), members[place - 1] if place else None)
                    self.same(up is None or order.directly(point, up), True)

    def test_within(self):
        for bench in SMALL:
            inside = oracle.points(bench)
            for name, members in oracle.chains(bench).items():
                places = [place for place, point in enumerate(members) if point in inside]
                self.same(within(bench, name), (places[0], len(places)) if places else (0, 0))
                self.same(within(name=name, bench=bench), within(bench, name))
        self.same(within(((DIAL, SWITCH), 0, 0, 1), ((0, 0), (0, 1))), (0, 0))

    def test_ranges_play_no_part(self):
        for low in range(4):
            for high in range(low, 4):
                bench = ((DIAL, SWITCH), low, high, 1)
                self.same(members_of(bench, ((0, 0), (0, 0))), ((0, 0), (1, 0), (2, 0), (2, 1)))
                self.same(next_up(bench, (0, 0)), (1, 0))
                self.same(next_down(bench, (0, 0)), None)
                self.same(next_up(bench, (2, 1)), None)
                self.same(chain_of(bench, (2, 1)), (((0, 0), (0, 0)), 3))

    def test_names_are_the_partition(self):
        for bench in SMALL:
            if len(bench[0]) <= 4:
                named = [point for name in names_by_words(bench) for point in members_of(bench, name)]
                self.same(sorted(named), oracle.full_points(bench))

    def test_refusals(self):
        name = ((0, 0), (0, 1))
        for thing in ODD + (((0, 0),), ((0, 0), (0, 2)), [(0, 0), (0, 1)], ((0, 0), (0, True)), ((0, 0), (1, 0))):
            self.fails(NotUsable, {"word": "name", "at": -1}, member_at, MIX, thing, 0)
            self.fails(NotUsable, {"word": "name", "at": -1}, member_at, MIX, thing, None)
            self.fails(NotUsable, {"word": "name", "at": -1}, members_of, MIX, thing)
            self.fails(NotUsable, {"word": "name", "at": -1}, within, MIX, thing)
        for place in NO_NUMBERS + (2, 10 ** 60 - 1):
            self.fails(NotUsable, {"word": "place", "at": -1}, member_at, MIX, name, place)
            self.fails(NotUsable, {"word": "place", "at": -1}, member_at, place=place, name=name, bench=MIX)
        for point in ODD + ((3, 0), (0, 2), (0,), [0, 0], (0, True)):
            self.fails(NotUsable, {"word": "point", "at": -1}, next_up, MIX, point)
            self.fails(NotUsable, {"word": "point", "at": -1}, next_down, point=point, bench=MIX)

    def test_long(self):
        rng = random.Random(8)
        for bench in LONG:
            for _ in range(5):
                name, size = random_name(rng, bench)
                self.same(size_of(bench, name), size)
                place = rng.randrange(size)
                point = member_at(bench, name, place)
                self.same(chain_of(bench, point), (name, place))
                self.same(next_up(bench, point) is None, place == size - 1)
                if place:
                    self.same(next_up(bench, next_down(bench, point)), point)
        members = members_of(LONG_LADDERS, ((0, 0),) * 60)
        self.same((len(members), members[0], members[-1]), (3781, (0,) * 60, (63,) * 60))
        self.same(within(LONG_LADDERS[:1] + (7, 9, 1), ((0, 0),) * 60), (7, 3))
