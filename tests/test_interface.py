import importlib
import inspect
import unittest

DEFS = {
    "lath.ratios": [
        "ratio(top, bottom)", "plus(one, other)", "minus(one, other)", "times(one, other)", "over(one, other)",
        "order(one, other)", "size(one)",
    ],
    "lath.rows": ["checked(row)", "runs(row)", "all_samples(row)", "tilted(row, slope, height)", "turned(row)"],
    "lath.lines": [
        "slope(one, other)", "line_by(steep, sample)", "height(line, when)", "off(line, sample)",
        "meet(line, other)",
    ],
    "lath.threes": ["stand(one, mid, last)", "kind(one, mid, last)", "pinched(one, mid, last, bound)"],
    "lath.best": ["worst_off(line, samples)", "best(samples)"],
    "lath.stretches": ["Stretch(bound)", "stretches(samples, bound)"],
    "lath.apart": ["apart(row, bound)"],
    "lath.bends": ["Bend(bound)"],
    "lath.joined": ["joined(row, bound)"],
    "lath.chords": ["farthest(samples, first, last)", "labels(samples, bound, tied)", "bars(samples, bound, tied)"],
    "lath.tied": ["spans(row, bound)", "chain(row, bound)"],
    "lath.tell": ["fewest(row, way, bound)", "many(row, way, bound)"],
    "lath.judge": ["miss(row, way, telling)", "fits(row, way, bound, telling)"],
    "lath.papers": ["shows(row, way, bound, number, paper, at=False)"],
    "lath.least": ["least(row, way, most)"],
    "lath.certain": ["sure(row, way, bound, moment)", "few(row, way, bound, moment)"],
    "lath.keeper": ["Keeper(way, bound)"],
    "lath.rules": ["answer(rule, row)", "parting(rule, other)"],
    "lath.words": [
        "whole_word(number)", "ratio_word(one)", "read_whole(word, figures=18)", "read_ratio(word, figures=18)",
    ],
    "lath.texts": [
        "show_row(row)", "show_telling(telling)", "show_paper(way, paper)", "read_row(lines)", "read_telling(lines)",
        "read_paper(way, lines)",
    ],
    "lath.desk": ["Desk()"],
    "lath.errors": ["NotARow(at)", "NoLine(at)"],
}

METHODS = {
    ("lath.stretches", "Stretch"): ["takes(self, sample)", "kept(self)", "slopes(self)", "room(self, moment)"],
    ("lath.bends", "Bend"): ["take(self, sample)", "line_now(self)", "room(self, moment)"],
    ("lath.keeper", "Keeper"): [
        "put(self, moment, top, bottom=1)", "gap(self, moment)", "mend(self, moment, top, bottom=1)",
        "strike(self, moment)", "settle(self, moment)", "close(self)", "row(self)", "told(self)", "paper(self)",
        "many(self)", "least(self, most)", "settled(self)", "closed(self)", "sure(self)", "few(self)",
    ],
    ("lath.desk", "Desk"): ["say(self, line)"],
}


def shown(holder, written):
    name = written.partition("(")[0]
    return name + str(inspect.signature(getattr(holder, name)))


class TestInterface(unittest.TestCase):
    def test_defs_and_their_arguments(self):
        for module, defs in DEFS.items():
            for written in defs:
                self.assertEqual(shown(importlib.import_module(module), written), written, module)

    def test_methods_and_their_arguments(self):
        for (module, name), methods in METHODS.items():
            for written in methods:
                self.assertEqual(shown(getattr(importlib.import_module(module), name), written), written, name)


if __name__ == "__main__":
    unittest.main()
