"""Point [123]: texts of heaps and stories, there and back, and the number of the first wrong line."""

import random
import unittest

from asifcopied.errors import BadHeap, BadStory, BadText, BadWide
from asifcopied.texts import heap_text, read_heap, read_story, story_text

from plain import drawn_story, drawn_value, not_numbers, odd_values

STORY = [(0, [("make", (1, None)), ("set", 0, 0, ("to", 1))]), (1, [("set", 1, 0, 2)]),
         (1, [("make", (5, ("to", 1))), ("set", 0, 0, ("to", 2))])]
HEAP = ((("to", 2), None), (1, None), (5, ("to", 1)))
HEAP_TEXT = "heap 2 3\nrecord @2 none\nrecord 1 none\nrecord 5 @1\n"
STORY_TEXT = "story 2 3\nfrom 0 2\nmake 1 none\nset 0 0 @1\nfrom 1 1\nset 1 0 2\nfrom 1 2\nmake 5 @1\nset 0 0 @2\n"
BAD_NUMBERS = ["01", "00", "+1", "-0", "-01", "1" * 19, "-" + "1" * 19, "", "-", "--1", "1.0", "1 ", "x", "@", "none ", "None",
               "0x1", "1e3", "1_0", "@-1", "@+0", "@00", "@x", "@@0", "@ 0", "@0@", "nonenone"]


def as_lists(story):
    return [(parent, list(deed)) for parent, deed in story]


class TestThereAndBack(unittest.TestCase):
    def test_heaps(self):
        for seed in range(200):
            rng = random.Random(seed)
            wide, many = 1 + seed % 6, 1 + rng.randrange(6)
            values = [10 ** 18 - 1, 1 - 10 ** 18, 0, -1]
            heap = tuple(tuple(rng.choice([drawn_value(rng, many), rng.choice(values)]) for _ in range(wide)) for _ in range(many))
            text = heap_text(heap, wide)
            self.assertEqual(read_heap(text), (heap, wide))
            self.assertIsInstance(read_heap(text), tuple)
            lines = text.split("\n")
            self.assertEqual((lines[0], lines[-1], len(lines)), ("heap " + str(wide) + " " + str(many), "", many + 2))

    def test_stories(self):
        for seed in range(100):
            wide = 1 + seed % 4
            story = drawn_story(seed, seed % 12, wide)
            text = story_text(story, wide)
            self.assertEqual(read_story(text), (story, wide))
            self.assertEqual(story_text(tuple((parent, tuple(deed)) for parent, deed in story), wide), text)
            told = read_story(text)[0]
            self.assertTrue(type(told) is list and all(type(pair) is tuple and type(pair[1]) is list for pair in told))
            self.assertEqual(text.count("\n"), 1 + len(story) + sum(len(deed) for _, deed in story))

    def test_by_hand(self):
        self.assertEqual(heap_text(heap=HEAP, wide=2), HEAP_TEXT)
        self.assertEqual(read_heap(text=HEAP_TEXT), (HEAP, 2))
        self.assertEqual(story_text(story=STORY, wide=2), STORY_TEXT)
        self.assertEqual(read_story(text=STORY_TEXT), (STORY, 2))
        self.assertEqual((story_text([], 6), read_story("story 6 0\n")), ("story 6 0\n", ([], 6)))
        self.assertEqual(heap_text(((None,),), 1), "heap 1 1\nrecord none\n")
        # A record may lead to itself when it is made.
        text = "story 1 1\nfrom 0 2\nmake @1\nset 0 0 -7\n"
        self.assertEqual(read_story(text), ([(0, [("make", (("to", 1),)), ("set", 0, 0, -7)])], 1))
        self.assertEqual(read_heap("heap 1 1\nrecord -999999999999999999\n"), (((-999999999999999999,),), 1))

    def test_errors(self):
        for call in [heap_text, story_text]:
            for bad in not_numbers(1, 6):
                with self.assertRaises(BadWide):
                    call(None, bad)
        for bad in [None, (), [], ((None,),), ((None, ("to", 1)),), [(None, None)], ((None, True),), 5]:
            with self.assertRaises(BadHeap):
                heap_text(bad, 2)
        for bad in [None, {}, 5, "ab", [()], [(1, [])], [(0, None)], [(0, [("set", 0, 2, 0)])], [[0, []]]]:
            with self.assertRaises(BadStory):
                story_text(bad, 2)


class TestWrongTexts(unittest.TestCase):
    def wrong(self, read, text, line):
        with self.assertRaises(BadText) as caught:
            read(text)
        self.assertEqual(caught.exception.line, line, repr(text))

    def test_no_strings(self):
        for bad in odd_values() + [[HEAP_TEXT], (STORY_TEXT,)]:
            if not isinstance(bad, str):
                for read in [read_heap, read_story]:
                    self.wrong(read, bad, 0)

    def test_lines_that_lack_and_lines_more(self):
        for read, text in [(read_heap, HEAP_TEXT), (read_story, STORY_TEXT)]:
            lines = text.split("\n")[:-1]
            self.wrong(read, "", 1)
            self.wrong(read, "\n", 1)
            for many in range(len(lines)):
                # A line that lacks, and one with no newline behind it.
                self.wrong(read, "".join(line + "\n" for line in lines[:many]), many + 1)
                self.wrong(read, "".join(line + "\n" for line in lines[:many]) + lines[many], many + 1)
                self.wrong(read, "\n".join(lines[:many] + [""] + lines[many:]) + "\n", many + 1)
            for more in ["\n", "x", " ", "record 1 none\n", "from 0 0\n", "set 0 0 1"]:
                self.wrong(read, text + more, len(lines) + 1)

    def test_other_words(self):
        for read, text in [(read_heap, HEAP_TEXT), (read_story, STORY_TEXT)]:
            lines = text.split("\n")[:-1]
            for at, line in enumerate(lines):
                words = line.split(" ")
                bent = [" " + line, line + " ", line.replace(" ", "  ", 1), line.upper(), line + " 0", line + " none", "x" + line,
                        words[0], " ".join(words[:-1]), line.replace(" ", "\t", 1), line.capitalize(), "heap", "story 9 1", "from 0 x"]
                for word in range(1, len(words)):
                    for bad in BAD_NUMBERS:
                        bent.append(" ".join(words[:word] + [bad] + words[word + 1:]))
                for told in bent:
                    self.wrong(read, "\n".join(lines[:at] + [told] + lines[at + 1:]) + "\n", at + 1)

    def test_first_lines(self):
        for line in ["heap 0 1", "heap 7 1", "heap 1 0", "heap 1 2001", "heap -1 1", "heap 1 -1", "heap none 1", "heap @1 1",
                     "heap 1 none", "story 1 1", "Heap 1 1", "heap 1", "heap 1 1 1"]:
            self.wrong(read_heap, line + "\nrecord none\n", 1)
        for line in ["story 0 1", "story 7 1", "story 1 2001", "story 1 -1", "heap 1 1", "story 1", "story 1 1 1", "story 1 none"]:
            self.wrong(read_story, line + "\nfrom 0 0\n", 1)

    def test_pointers_beyond(self):
        self.wrong(read_heap, "heap 1 2\nrecord @2\nrecord @2\n", 2)
        self.wrong(read_heap, "heap 1 2\nrecord @1\nrecord @2\n", 3)
        self.wrong(read_heap, "heap 1 2\nrecord @1\nrecord 1\nrecord 1\n", 4)
        self.wrong(read_story, STORY_TEXT.replace("set 0 0 @2", "set 0 0 @3"), 9)
        self.wrong(read_story, STORY_TEXT.replace("make 5 @1", "make 5 @3"), 8)
        self.wrong(read_story, STORY_TEXT.replace("make 1 none", "make 1 @2"), 3)

    def test_changes_that_cannot_be_done(self):
        for line in ["set 2 0 1", "set 0 2 1", "set -1 0 1", "set 0 -1 1", "set 0 0 @2", "set none 0 1", "set @0 0 1", "set 0 none 1",
                     "set 0 0", "set 0 0 1 1", "make 1", "make 1 1 1", "make 1 @3", "put 0 0 1", "set", "make", "from 1 0"]:
            self.wrong(read_story, STORY_TEXT.replace("set 1 0 2", line), 6)
        # A record of another version is not there.
        text = "story 1 2\nfrom 0 1\nmake none\nfrom 0 1\nset 1 0 1\n"
        self.wrong(read_story, text, 5)
        self.assertEqual(read_story(text.replace("from 0 1\nset", "from 1 1\nset"))[0][1], (1, [("set", 1, 0, 1)]))

    def test_parents(self):
        for line in ["from 2 1", "from 9 1", "from -1 1", "from none 1", "from @0 1", "from 0", "from 0 1 1", "from 0 -1", "from 0 none"]:
            self.wrong(read_story, STORY_TEXT.replace("from 1 1", line), 5)
        self.wrong(read_story, "story 1 1\nfrom 1 0\n", 2)
        # Fewer changes than lines, and more.
        self.wrong(read_story, STORY_TEXT.replace("from 0 2", "from 0 1"), 4)
        self.wrong(read_story, STORY_TEXT.replace("from 0 2", "from 0 3"), 5)
        self.wrong(read_story, STORY_TEXT.replace("from 1 2", "from 1 999999999999999999"), 10)

    def test_the_first_one_is_told(self):
        self.wrong(read_heap, "heap 2 3\nrecord @2\nrecord x x\n", 2)
        self.wrong(read_story, STORY_TEXT.replace("set 1 0 2", "set 1 0 02").replace("@2", "@9"), 6)

    def test_as_great_as_can_be(self):
        heap = tuple((record, ("to", (record + 1) % 2000)) for record in range(2000))
        text = heap_text(heap, 2)
        self.assertEqual(read_heap(text), (heap, 2))
        self.wrong(read_heap, text.replace("heap 2 2000", "heap 2 2001"), 1)
        story = [(at, [("set", 0, 0, at)]) for at in range(2000)]
        text = story_text(story, 1)
        self.assertEqual(read_story(text), (story, 1))
        self.wrong(read_story, text.replace("story 1 2000", "story 1 2001"), 1)
        self.wrong(read_story, text.replace("story 1 2000", "story 1 1999"), 3 + 2 * 1999 - 1)


if __name__ == "__main__":
    unittest.main()
