import unittest

from planeyard.errors import NoNet, YardError
from planeyard.writing import written
from samples import crowded, odd_things, sample_nets


class Written(unittest.TestCase):
    def test_plain_nets(self):
        for net, text in (
            ((1, ()), "net 1"),
            ((12, ()), "net 12"),
            ((2, ((0, 1),)), "net 2 0-1"),
            ((3, ((0, 1), (0, 2), (1, 2))), "net 3 0-1 0-2 1-2"),
            ((10, ((0, 9), (8, 9))), "net 10 0-9 8-9"),
            ((11, ((2, 10), (9, 10))), "net 11 2-10 9-10"),
            ((12, ((0, 1), (1, 11), (2, 3), (10, 11))), "net 12 0-1 1-11 2-3 10-11"),
        ):
            self.assertEqual(written(net), text)

    def test_many_nets(self):
        for net in sample_nets():
            text = "net " + str(net[0]) + "".join(" %d-%d" % edge for edge in net[1])
            self.assertEqual(written(net), text)
            self.assertEqual(written(net), text)
            self.assertIs(type(written(net)), str)

    def test_unlike_nets_have_unlike_texts(self):
        nets = set(sample_nets())
        self.assertEqual(len({written(net) for net in nets}), len(nets))

    def test_forty_edges(self):
        self.assertEqual(len(written(crowded(12, 40)).split(" ")), 42)

    def test_what_is_no_net(self):
        no_nets = [(0, ()), (13, ()), (True, ()), (None, ()), ("1", ()), (3, []), [3, ()], (3, ((1, 0),)),
                   (3, ((0, 1), (0, 1))), (3, ((0, 2), (0, 1))), (3, ((1, 1),)), (3, ((0, 3),)), (3, ((-1, 0),)),
                   (3, ((0, True),)), (3, ([0, 1],)), (3, ((0, 1, 2),)), (3, ((0,),)), (3,), (3, (), ()),
                   crowded(12, 41), "net 3"]
        for thing in no_nets + odd_things():
            for error in (NoNet, YardError, ValueError):
                with self.subTest(thing=thing), self.assertRaises(error):
                    written(thing)

    def test_a_refused_list_is_not_changed(self):
        thing = [3, [(1, 2), (0, 1)]]
        with self.assertRaises(NoNet):
            written(thing)
        self.assertEqual(thing, [3, [(1, 2), (0, 1)]])


if __name__ == "__main__":
    unittest.main()
