from stubbornest.errors import NotUsable
from stubbornest.kinds import bits, is_integer, is_number, is_set
from tests import oracle
from tests.cases import Case
from tests.samples import HUGE, NO_NUMBERS, ODD


class Kinds(Case):
    def test_example(self):
        self.same(is_set(3, (0, True)), False)

    def test_is_integer(self):
        for thing in (0, 1, -1, 10 ** 60 - 1, -(10 ** 60) + 1):
            self.same(is_integer(thing), True, thing)
        for thing in (None, True, False, "", "1", (), (1,), [1]):
            self.same(is_integer(thing), False, thing)

    def test_is_number(self):
        for thing in (0, 1, 10 ** 60 - 1):
            self.same(is_number(thing), True, thing)
        for thing in NO_NUMBERS:
            self.same(is_number(thing), False, thing)

    def test_is_set(self):
        for size, thing in ((0, ()), (5, ()), (1, (0,)), (3, (0, 1, 2)), (3, (0, 2)), (10 ** 60, (7, 10 ** 60 - 1))):
            self.same(is_set(size, thing), True, size, thing)
        near = (
            (0, (0,)), (2, (0, 1, 2)), (2, (2,)), (3, (1, 0)), (3, (1, 1)), (3, (0, 1, 1)), (3, [0, 1]), (3, (-1,)),
            (3, (False,)), (3, (0, True)), (3, ("0",)), (3, (None,)), (3, ((),)), (3, "01"), (3, 1), (3, None), (3, True),
        )
        for size, thing in near:
            self.same(is_set(size, thing), False, size, thing)
        for thing in ODD:
            self.same(is_set(0, thing), False, thing)

    def test_is_set_refuses_a_size(self):
        for size in NO_NUMBERS:
            self.fails(NotUsable, {"word": "size", "at": -1}, is_set, size, ())
        self.fails(NotUsable, {"word": "size", "at": -1}, is_set, thing=None, size=None)
        self.same(is_set(thing=(0,), size=1), True)

    def test_bits(self):
        self.same([bits(many) for many in range(9)], [0, 1, 2, 2, 3, 3, 3, 3, 4])
        for many in list(range(200)) + [HUGE]:
            self.same(bits(many), oracle.bits(many))
        for many in NO_NUMBERS:
            self.fails(NotUsable, {"word": "many", "at": -1}, bits, many)
        self.fails(NotUsable, {"word": "many", "at": -1}, bits, many=True)
