"""A desk, at which a yard is asked ([19], [1] (a))."""

import random
import unittest

from tests.samples import SWINGING, TERA, some_post
from waithands.calming import calm
from waithands.desk import Desk
from waithands.errors import BadAsk, BadText, BadYard, HandError, TooMany, TooWide
from waithands.fewest import fewest
from waithands.leading import least_bound, opened
from waithands.loads import load_of, load_text
from waithands.posts import hands_of
from waithands.texts import post_rows, read_yard, yard_text
from waithands.yards import Yard

CUT = "post cut pace 3 room 40 hands 1 6 late 2 every 2 rests 1 3"
RULES = "rule\nwait over 12 in 1 more 2\nwait under 2 in 4 fewer 1\nrule\ncome each 3 in 2"
SEW = "post sew pace 2 room 30 hands 1 3 late 0 every 1 rests 0 0"
CALLED = "post pack pace 1 room 6 hands 0 4 late 0 every 1 rests 0 0\nrule\nwait each 1 in 1"
TEXT = f"yard 7\n{CUT}\non sew\n{RULES}\n{SEW}\n{CALLED}"
NAMES = ["cut", "sew", "pack"]

# Of each kind one that is told.
ASKS = [
    "beat", "beat cut 9", "beat cut 1 sew 2 pack 3", "load cut 5 0x3", "load sew -", "stand cut", "counts sew", "hands",
    "yard", "keep a", "back a", "lead cut pack", "lead cut -", f"change sew\n{SEW}", f"change cut\n{CUT}\n{RULES}",
    "bound sew 3/2 600", "keeps sew 3/2 3 300", "calm sew 3/2,4/1 300", "fewest pack 1/2 3 300",
]


def change_rows(name, post):
    """The rows of a change."""
    pace, room, (least, most), late, every, (up, down), rules = post
    head = f"post {name} pace {pace} room {room} hands {least} {most} late {late} every {every} rests {up} {down}"
    return "\n".join([f"change {name}", head] + post_rows(post))


def picture(desk):
    """All that a desk tells of how its yard stands."""
    asks = ["yard", "hands"] + [f"{word} {name}" for word in ("stand", "counts") for name in desk.yard.names()]
    return [desk.ask(text) for text in asks] + [desk.yard.told(), desk.yard.beats(), sorted(desk.kept)]


def begun(text=TEXT):
    """A desk that is some beats on, with a yard kept under a."""
    desk = Desk(text)
    desk.ask("load cut 9 20 3x4")
    desk.ask("keep a")
    desk.ask("beat pack 5")
    return desk


class Desks(unittest.TestCase):

    def assert_refused(self, desk, text, error=BadAsk):
        """It is refused, and all stands as it did."""
        ahead = picture(desk)
        with self.subTest(text=text):
            with self.assertRaises(HandError) as caught:
                desk.ask(text)
            self.assertIs(type(caught.exception), error)
            self.assertEqual(picture(desk), ahead)


class Begun(Desks):

    def test_by_a_text(self):
        self.assertEqual(Desk(TEXT).ask("yard"), TEXT)
        self.assertEqual(Desk(TEXT).ask("hands"), "2")

    def test_refused_as_read_yard(self):
        wrong = (("", 0), ("yard 7", 1), (TEXT + "\n", 12), (f"yard 61\n{SEW}", 0), (f"yard 7\n{SEW}\nrule", 3))
        for text, row in wrong:
            with self.assertRaises(BadText) as caught:
                Desk(text)
            self.assertEqual(caught.exception.row, row)
        for text in (f"yard 0\n{SEW}", f"yard 7\n{SEW}\n{SEW}", f"yard 7\n{SEW}\non cut"):
            with self.assertRaises(BadYard):
                Desk(text)


class Told(Desks):

    def test_beats(self):
        desk = Desk(TEXT)
        self.assertEqual(desk.ask("beat cut 9"), "cut 9 3 0 0, sew 3 2 0 0, pack 0 0 0 0")
        self.assertEqual(desk.ask("beat"), "cut 0 3 0 1, sew 3 2 0 0, pack 0 0 0 0")
        self.assertEqual(desk.ask("beat pack 9"), "cut 0 3 0 0, sew 3 2 0 0, pack 9 0 3 4")
        self.assertEqual(desk.ask("beat sew 1 pack 0 cut 2"), "cut 2 2 0 0, sew 3 2 0 0, pack 0 4 0 -2")
        self.assertEqual(desk.ask(f"beat sew {TERA}"), f"cut 0 0 0 0, sew {TERA} 2 {TERA - 26} 0, pack 0 2 0 -2")

    def test_a_load(self):
        desk = Desk(TEXT)
        self.assertEqual(desk.ask("load pack 2 (1 0)x2"), "wait 0 hands 0")
        self.assertEqual(desk.yard.beats(), 5)
        self.assertEqual(desk.ask("counts pack"), "came 4 done 4 away 0")
        self.assertEqual(desk.ask("counts cut"), "came 0 done 0 away 0")
        self.assertEqual(desk.ask("load pack 6"), "wait 6 hands 4")
        self.assertEqual(desk.ask("load pack -"), "wait 6 hands 4")
        self.assertEqual(desk.yard.beats(), 6)

    def test_a_load_of_300_beats(self):
        desk = Desk(TEXT)
        told = desk.ask("load sew 2x99 2x99 2x99 3 0 1")
        self.assertEqual((told, desk.yard.beats()), ("wait 0 hands 1", 300))
        self.assertEqual(desk.ask("counts sew"), "came 598 done 598 away 0")
        self.assert_refused(desk, "load sew 2x99 2x99 2x99 3 0 1 1")

    def test_a_stand_counts_and_hands(self):
        desk = Desk(TEXT)
        desk.ask("beat cut 9")
        desk.ask("beat")
        self.assertEqual(desk.ask("stand cut"), "wait 3 ready 1 called 0 0 1 0 0 since 0 rest 1")
        self.assertEqual(desk.ask("stand sew"), "wait 2 ready 1 called 0 0 0 0 0 since 0 rest 0")
        self.assertEqual(desk.ask("counts sew"), "came 6 done 4 away 0")
        self.assertEqual(desk.ask("hands"), "3")
        desk.ask("beat pack 8")
        self.assertEqual(desk.ask("counts pack"), "came 8 done 0 away 2")
        self.assertEqual(desk.ask("stand pack"), "wait 6 ready 0 called 4 0 0 0 0 since 0 rest 0")
        self.assertEqual(desk.ask("hands"), "7")

    def test_change_and_lead(self):
        desk = begun()
        self.assertEqual(desk.ask("lead cut pack"), "done")
        self.assertEqual(desk.ask("yard"), TEXT.replace("on sew", "on pack"))
        self.assertEqual(desk.ask("lead cut -"), "done")
        self.assertEqual(desk.ask("yard"), TEXT.replace("on sew\n", ""))
        self.assertEqual(desk.ask("lead cut -"), "done")
        self.assertEqual(desk.ask("lead cut sew"), "done")
        stand = desk.ask("stand sew")
        other = f"{SEW.replace('pace 2', 'pace 5')}\nrule\ncome each 3 in 2"
        self.assertEqual(desk.ask(f"change sew\n{other}"), "done")
        self.assertEqual(desk.ask("yard"), TEXT.replace(SEW, other))
        self.assertEqual(desk.ask("stand sew"), stand)
        # An onward stays as it is where the post is changed.
        self.assertEqual(desk.ask(f"change cut\n{CUT}"), "done")
        self.assertEqual(desk.ask("yard"), TEXT.replace(SEW, other).replace(RULES + "\n", ""))

    def test_keep_and_back(self):
        desk = Desk(TEXT)
        self.assertEqual(desk.ask("keep a"), "done")
        first = picture(desk)
        desk.ask("load cut 9 9 9")
        self.assertEqual(desk.ask("keep b"), "done")
        later = picture(desk)
        desk.ask("lead cut -")
        desk.ask(f"change sew\n{SEW.replace('pace 2', 'pace 5')}")
        desk.ask("beat sew 5")
        for turn in range(3):
            self.assertEqual(desk.ask("back a"), "done")
            self.assertEqual(picture(desk)[:-1], first[:-1])
            self.assertEqual(desk.yard.beats(), 0)
            told = desk.ask("beat cut 30")
            self.assertEqual(told, Desk(TEXT).ask("beat cut 30"))
            self.assertEqual(desk.ask("back b"), "done")
            self.assertEqual(picture(desk), later)
            self.assertEqual((desk.yard.beats(), len(desk.yard.told())), (3, 3))
            desk.ask("load cut 1 2 3")
            self.assertEqual(desk.yard.beats(), 6)

    def test_keep_under_the_same_word_anew(self):
        desk = Desk(TEXT)
        desk.ask("keep same")
        desk.ask("load cut 9 9 9")
        desk.ask("keep same")
        later = picture(desk)
        desk.ask("beat")
        desk.ask("back same")
        self.assertEqual(picture(desk), later)
        desk.ask("keep other")
        desk.ask("beat")
        desk.ask("back same")
        self.assertEqual(picture(desk)[:-1], later[:-1])

    def test_a_word_may_be_a_post_s_name_or_an_ask_s_word(self):
        desk = Desk(TEXT)
        for word in ("cut", "keep", "back", "z", "abcdefgh"):
            self.assertEqual(desk.ask(f"keep {word}"), "done")
            self.assertEqual(desk.ask(f"back {word}"), "done")

    def test_bound(self):
        desk = Desk(TEXT)
        self.assertEqual(desk.ask("bound pack 1/2 300"), "bound 3 3")
        self.assertEqual(desk.ask("bound sew 0/2 300"), "bound 0 -")
        self.assertEqual(desk.ask("bound pack 0/7 300"), "none 7")
        self.assertEqual(desk.ask("bound sew 2/2,9/3 300"), "bound 2 4")
        self.assertEqual(desk.ask("bound sew 0/3 600"), "none 3x29")

    def test_keeps(self):
        desk = Desk(TEXT)
        self.assertEqual(desk.ask("keeps pack 1/2 3 300"), "kept 10")
        self.assertEqual(desk.ask("keeps pack 1/2 3 10"), "kept 10")
        self.assertEqual(desk.ask("keeps pack 1/2 2 300"), "broken 3")
        self.assertEqual(desk.ask("keeps sew 0/3 2 300"), "broken 3x3")
        self.assertEqual(desk.ask(f"keeps sew 0/3 {TERA} 600"), "broken 3x29")
        self.assertEqual(desk.ask("keeps sew 0/0 0 1"), "kept 1")

    def test_calm(self):
        desk = Desk(TEXT)
        how, entries, worths = calm(desk.yard.post("pack"), desk.yard.stand("pack"), ((1, 2),))
        self.assertEqual((how, len(entries)), ("calm", 10))
        self.assertEqual(desk.ask("calm pack 1/2 300"), f"calm 10 {max(max(row) for row in worths)}")
        self.assertEqual(desk.ask("calm sew 3/2,4/1 300"), "calm 11 0")
        # The greatest of all worths: the hand that was called last goes five beats later where nothing comes.
        desk.ask(f"change pack\n{CALLED.replace('hands 0 4', 'hands 0 1')}")
        self.assertEqual(desk.ask("calm pack 1/2 300"), "calm 12 5")
        swinging = Desk(yard_text(5, [("a", SWINGING, None)]))
        self.assertEqual(swinging.ask("calm a 0/1 300"), "swings 1 2 -")
        swinging.ask("beat a 6")
        told = calm(SWINGING, swinging.yard.stand("a"), ((0, 1),))
        self.assertEqual(swinging.ask("calm a 0/1 300"), f"swings {told[2]} {told[3]} {load_text(told[1])}")
        self.assertNotEqual(told[1], [])

    def test_fewest(self):
        desk = Desk(TEXT)
        self.assertEqual(desk.ask("fewest pack 1/2 3 300"), "fewest 2")
        self.assertEqual(desk.ask("fewest pack 1/2 2 300"), "none")
        self.assertEqual(desk.ask("fewest pack 0/0 0 1"), "fewest 0")
        self.assertEqual(desk.ask("fewest sew 0/2 0 300"), "fewest 1")

    def test_by_the_stand_and_the_post_as_they_are(self):
        desk = Desk(TEXT)
        desk.ask("load sew 9")
        self.assertEqual(desk.ask("bound sew 0/2 300"), "bound 7 -")
        self.assertEqual(desk.ask("keeps sew 0/2 6 300"), "broken 2")
        self.assertEqual(desk.ask("keeps sew 0/2 7 300")[:4], "kept")
        # From its first stand on, whatever waits now.
        self.assertEqual(desk.ask("fewest sew 0/2 0 300"), "fewest 1")
        desk.ask(f"change sew\n{SEW.replace('pace 2', 'pace 1')}")
        self.assertEqual(desk.ask("fewest sew 0/2 0 300"), "none")
        self.assertEqual(desk.ask("keeps sew 0/1 7 300")[:4], "kept")
        self.assertEqual(desk.ask("bound sew 0/2 300"), "none 2x23")

    def test_they_change_nothing(self):
        desk = begun()
        ahead = picture(desk)
        for text in ASKS[5:9] + ASKS[15:]:
            try:
                told = desk.ask(text)
            except TooMany:
                continue
            self.assertEqual(desk.ask(text), told)
            self.assertEqual(picture(desk), ahead)

    def test_curves_of_one_to_three_pairs_and_numbers_to_their_bounds(self):
        desk = Desk(TEXT)
        for word, curve in (
            ("0/0", ((0, 0),)), ("1/2,3/1", ((1, 2), (3, 1))), ("1/2,3/1,4/1", ((1, 2), (3, 1), (4, 1))),
            (f"{TERA}/{TERA},0/1", ((TERA, TERA), (0, 1))),
        ):
            expected = opened(desk.yard.post("pack"), desk.yard.stand("pack"), curve, 3, 600)
            self.assertEqual(desk.ask(f"keeps pack {word} 3 600"), f"kept {len(expected[1])}")
        self.assertEqual(desk.ask(f"keeps pack 0/1 {TERA} 600")[:4], "kept")

    def test_texts_alone(self):
        desk = Desk(TEXT)
        for text in ASKS:
            self.assertIs(type(desk.ask(text)), str)

    def test_asks_of_2000_signs(self):
        desk = Desk(TEXT)
        wide = "load cut " + " ".join(["1000000"] * 249)
        self.assertEqual(len(wide), 2000)
        beats = desk.yard.beats()
        desk.ask(wide)
        self.assertEqual(desk.yard.beats(), beats + 249)
        row = f"wait under {TERA} in 4 fewer 12"
        large = f"post cut pace 1000000 room {TERA} hands 12 12 late 4 every 6 rests 9 9"
        rules = "\n".join((["rule"] + [row] * 4) * 3)
        desk = Desk(f"yard 60\n{CUT}")
        self.assertEqual(desk.ask(f"change cut\n{large}\n{rules}"), "done")
        self.assertEqual(desk.ask("yard"), f"yard 60\n{large}\n{rules}")
        self.assert_refused(desk, "beat " + "c" * 1995)
        self.assert_refused(desk, "9" * 2000)
        self.assert_refused(desk, "load cut " + "9" * 1991)
        self.assert_refused(desk, "load cut " + "(" * 1991)
        self.assert_refused(desk, "change cut" + "\n" * 1990)


class Refused(Desks):

    def test_no_such_ask(self):
        desk = begun()
        for text in (
            "", " ", "\n", "beats", "Beat", "told", "names", "bea", "beat\n", "yard\n", "hands\nhands", "-", "9", "cut",
        ):
            self.assert_refused(desk, text)

    def test_words_more_less_and_otherwise(self):
        desk = begun()
        for text in ASKS:
            words = text.split(" ")
            wrong = [f" {text}", f"{text} ", f"{text}\n", f"{text} x", f"{text} 5 5 x", text.upper(), f"{text}\nhands"]
            wrong += [" ".join(words[:at] + [""] + words[at:]) for at in range(len(words))]
            wrong += [" ".join(words[:at] + ["Q"] + words[at + 1:]) for at in range(len(words))]
            if len(words) > 1 and not text.startswith("beat"):
                wrong += [" ".join(words[:at] + words[at + 1:]) for at in range(len(words))]
            for other in wrong:
                if other not in ("load cut 5", "load cut 0x3", "load sew -"):
                    self.assert_refused(desk, other)

    def test_beats_that_can_not_be(self):
        desk = begun()
        for text in (
            "beat cut", "beat cut 5 sew", "beat 5", "beat 5 cut", "beat cut 5 cut 5", "beat cut 5 sew 1 cut 0",
            "beat cut 05", "beat cut -1", "beat cut +1", f"beat cut {TERA + 1}", "beat cut x", "beat cut 5 none 5",
            "beat none 5",
            "beat cut 5, sew 5", "beat cut 5 sew 5 none", "beat Cut 5", "beat cut 5 5 cut", "beat cut 1 0",
        ):
            self.assert_refused(desk, text)

    def test_loads_that_can_not_be(self):
        desk = begun()
        for text in (
            "load", "load cut", "load cut ", "load none 5", "load none -", "load cut x", "load cut 5x1", "load cut 05",
            "load cut (5)x2x2", "load cut 99x99 99x99 99x99 1x99", f"load cut {TERA + 1}", "load cut 5 ",
            "load cut - -", "load cut 5\n5", "load 5 cut", "load  5", "load CUT 5", "load cut 5  5",
        ):
            self.assert_refused(desk, text)

    def test_changes_that_can_not_be(self):
        desk = begun()
        for text in (
            "change", "change cut", "change cut\n", f"change none\n{CUT}", f"change sew\n{CUT}", f"change cut\n{SEW}",
            f"change none\n{SEW.replace('sew', 'none')}", f"change cut\n{CUT}\n", f"change cut\n{CUT}\non sew",
            f"change cut\n{CUT}\non cut", f"change cut\n{CUT}\non none\n{RULES}", f"change cut\n{CUT}\n{SEW}",
            f"change cut\n{CUT}\non sew\n{SEW}", f"change cut\n{CUT}\nrule",
            f"change cut\n{CUT}\nwait over 12 in 1 more 2", f"change cut\n{RULES}", f"change cut\nyard 60\n{CUT}",
            f"change cut {CUT}", f"change\n{CUT}", f"change cut\n\n{CUT}", f"change cut \n{CUT}",
            f"change cut cut\n{CUT}", f"change cut\n{CUT.replace('hands 1 6', 'hands 6 1')}", f"change Cut\n{CUT}",
            f"change cut\n{CUT.replace('pace 3', 'pace 0')}", f"change cut\n{CUT}\n{RULES}\n{RULES}",
            f"change cut\n{CUT}\n{CUT}",
        ):
            self.assert_refused(desk, text)

    def test_leads_that_can_not_be(self):
        desk = begun()
        for text in ("lead", "lead cut", "lead none sew", "lead none -", "lead cut Sew", "lead cut --", "lead cut 5",
                     "lead cut sew pack", "lead cut ", "lead - cut", "lead cut abcdefghi", "lead none none"):
            self.assert_refused(desk, text)

    def test_names_that_are_not_there(self):
        desk = begun()
        for name in ("none", "cutx", "cu", "Cut", "CUT", "-", "5", "abcdefghi"):
            for text in ("stand {}", "counts {}", "bound {} 1/1 300", "keeps {} 1/1 5 300", "calm {} 1/1 300",
                         "fewest {} 1/1 5 300", "load {} 5", "load {} -", "beat {} 5", "lead {} -", "lead {} sew"):
                self.assert_refused(desk, text.format(name))

    def test_words_under_which_nothing_is_kept(self):
        desk = begun()
        for word in ("b", "aa", "A", "", "abcdefghi", "5", "-", "cut", "a a"):
            self.assert_refused(desk, f"back {word}")
        for word in ("B", "", "abcdefghi", "5", "-", "a1", "a b"):
            self.assert_refused(desk, f"keep {word}")

    def test_limits_bounds_and_curves(self):
        desk = begun()
        curves = ("1/1,1/1,1/1,1/1", "", ",", "1", "1/", "/1", "1/1,", ",1/1", "1/1,1", "1/1/1", "01/1", "1/01", "1 1")
        curves += ("1/-1", "-", f"{TERA + 1}/1", f"1/{TERA + 1}", "1/1;1/1", "a/b", "1/1,,1/1", "1/ 1", "(1/1)")
        for curve in curves:
            for text in ("bound pack {} 300", "keeps pack {} 3 300", "calm pack {} 300", "fewest pack {} 3 300"):
                self.assert_refused(desk, text.format(curve))
        for limit in ("0", "601", "00", "0300", "-1", "x", "", "1000000000000", "3.0"):
            for text in ("bound pack 0/1 {}", "keeps pack 0/1 3 {}", "calm pack 0/1 {}", "fewest pack 0/1 3 {}"):
                self.assert_refused(desk, text.format(limit))
        for bound in (f"{TERA + 1}", "03", "-1", "x", ""):
            for text in ("keeps pack 0/1 {} 300", "fewest pack 0/1 {} 300"):
                self.assert_refused(desk, text.format(bound))

    def test_limits_1_and_600_are_let(self):
        desk = Desk(TEXT)
        for text in ("bound sew 0/0 {}", "keeps sew 0/0 0 {}", "calm sew 0/0 {}", "fewest sew 0/0 0 {}"):
            for limit in (1, 600):
                desk.ask(text.format(limit))


class ThenRefused(Desks):

    def test_bad_yard_by_change(self):
        desk = begun()
        for hands in ("hands 7 7", "hands 12 12"):
            self.assert_refused(desk, f"change cut\n{CUT.replace('hands 1 6', hands)}", BadYard)
        self.assertEqual(desk.ask(f"change cut\n{CUT.replace('hands 1 6', 'hands 6 6')}"), "done")
        self.assert_refused(desk, f"change sew\n{SEW.replace('hands 1 3', 'hands 2 3')}", BadYard)

    def test_bad_yard_by_lead(self):
        desk = begun()
        for text in (
            "lead cut cut", "lead sew cut", "lead pack sew", "lead cut none", "lead pack pack", "lead sew abcdefgh",
        ):
            self.assert_refused(desk, text, BadYard)

    def test_too_wide_and_too_many(self):
        desk = begun()
        for text in ("bound pack {} 1", "keeps pack {} 0 1", "calm pack {} 1", "fewest pack {} 0 1"):
            for curve in ("24/0", "0/24", "20/4,99/99", f"{TERA}/{TERA}"):
                self.assert_refused(desk, text.format(curve), TooWide)
        for text in ("bound pack 0/1 1", "keeps pack 0/1 6 1", "calm pack 0/1 1", "fewest pack 0/1 6 1"):
            self.assert_refused(desk, text, TooMany)
        desk = Desk(TEXT)
        self.assert_refused(desk, "keeps pack 1/2 3 9", TooMany)
        self.assertEqual(desk.ask("keeps pack 1/2 3 10"), "kept 10")

    def test_bad_ask_goes_first(self):
        desk = begun()
        for text in ("bound none 24/0 300", "keeps pack 24/0 x 300", "calm pack 24/0 601", "fewest none 24/0 0 1",
                     "lead none none", "lead cut None", "keeps pack 24/0,1 3 300",
                     f"change none\n{CUT.replace('hands 1 6', 'hands 12 12')}",
                     f"change sew\n{CUT.replace('hands 1 6', 'hands 12 12')}",
                     f"change cut\n{CUT.replace('hands 1 6', 'hands 12 12')}\non sew"):
            self.assert_refused(desk, text)


class BesideAYard(Desks):

    def some_deed(self, chance, desk, yard):
        """An ask, and what is to be told of it by what the yard told of the same deed."""
        names = yard.names()
        name = chance.choice(names)
        deed = chance.randrange(8)
        if deed <= 2:
            comes = [(other, chance.randint(0, 9)) for other in chance.sample(names, chance.randint(0, len(names)))]
            rows = yard.beat(comes)
            text = " ".join(["beat"] + [f"{other} {come}" for other, come in comes])
            return text, ", ".join(" ".join(str(part) for part in row) for row in rows)
        if deed == 3:
            written = chance.choice(["-", "5", "3x4", "(1 0x2)x3", "9 0 9"])
            for come in load_of(written):
                yard.beat([(name, come)])
            return f"load {name} {written}", f"wait {yard.stand(name)[0]} hands {hands_of(yard.stand(name))}"
        if deed == 4:
            post = some_post(chance)
            post = post[:2] + ((yard.post(name)[2][0], 12),) + post[3:]
            yard.change(name, post)
            return change_rows(name, post), "done"
        if deed == 5:
            onward = chance.choice(names[names.index(name) + 1:] + [None])
            yard.lead(name, onward)
            return f"lead {name} {onward or '-'}", "done"
        if deed == 6:
            came, done, away = yard.counts(name)
            return f"counts {name}", f"came {came} done {done} away {away}"
        wait, ready, called, since, rest, seen = yard.stand(name)
        places = " ".join(str(many) for many in called)
        return f"stand {name}", f"wait {wait} ready {ready} called {places} since {since} rest {rest}"

    def test_deed_by_deed(self):
        chance = random.Random(190)
        for turn in range(40):
            posts = [(name, some_post(chance), None) for name in chance.sample("abcdefgh", chance.randint(1, 5))]
            total = chance.randint(sum(post[2][0] for name, post, onward in posts), 60)
            desk, yard = Desk(yard_text(total, posts)), Yard(total, posts)
            for deed in range(30):
                text, expected = self.some_deed(chance, desk, yard)
                self.assertEqual(desk.ask(text), expected)
                self.assertEqual(desk.ask("hands"), str(yard.hands()))
                rows = [(name, yard.post(name), yard.onward(name)) for name in yard.names()]
                self.assertEqual(desk.ask("yard"), yard_text(total, rows))
            self.assertEqual(desk.yard.told(), yard.told())

    def test_changed_in_the_midst_beside_one_begun_anew(self):
        chance = random.Random(191)
        for turn in range(40):
            posts = [(name, some_post(chance), None) for name in chance.sample("abcdefgh", chance.randint(1, 5))]
            total = chance.randint(sum(post[2][0] for name, post, onward in posts), 60)
            desk, yard = Desk(yard_text(total, posts)), Yard(total, posts)
            for deed in range(12):
                desk.ask(self.some_deed(chance, desk, yard)[0])
            stands = [desk.yard.stand(name) for name in desk.yard.names()]
            anew = Yard(*read_yard(desk.ask("yard")), stands)
            for deed in range(10):
                comes = [(name, chance.randint(0, 9)) for name in anew.names()]
                text = " ".join(["beat"] + [f"{name} {come}" for name, come in comes])
                rows = anew.beat(comes)
                self.assertEqual(desk.ask(text), ", ".join(" ".join(str(part) for part in row) for row in rows))

    def test_what_loads_lead_to_as_the_modules_tell(self):
        chance = random.Random(192)
        told = {}
        for turn in range(150):
            post = some_post(chance)
            if turn % 3 == 0:
                post = SWINGING
            desk = Desk(yard_text(20, [("a", post, None)]))
            desk.ask("load a " + chance.choice(["-", "3", "1 5 0", "9 9"]))
            stand = desk.yard.stand("a")
            written, curve = chance.choice([("1/1", ((1, 1),)), ("0/1,2/0", ((0, 1), (2, 0))), ("0/2", ((0, 2),))])
            bound, limit = chance.randint(0, 6), chance.choice((5, 40, 80))
            for text, answer in (
                (f"bound a {written} {limit}", lambda: self.bound_text(least_bound(post, stand, curve, limit))),
                (
                    f"keeps a {written} {bound} {limit}",
                    lambda: self.keeps_text(opened(post, stand, curve, bound, limit)),
                ),
                (f"calm a {written} {limit}", lambda: self.calm_text(calm(post, stand, curve, limit))),
                (f"fewest a {written} {bound} {limit}", lambda: self.fewest_text(fewest(post, curve, bound, limit))),
            ):
                try:
                    expected = answer()
                except TooMany:
                    self.assert_refused(desk, text, TooMany)
                    continue
                self.assertEqual(desk.ask(text), expected)
                told[expected.split(" ")[0]] = told.get(expected.split(" ")[0], 0) + 1
        self.assertEqual(sorted(told), ["bound", "broken", "calm", "fewest", "kept", "none", "swings"])
        self.assertGreater(min(told.values()), 3)

    def bound_text(self, told):
        return ("none" if told[0] is None else f"bound {told[0]}") + f" {load_text(told[1])}"

    def keeps_text(self, told):
        return f"kept {len(told[1])}" if told[0] == "kept" else f"broken {load_text(told[1])}"

    def calm_text(self, told):
        if told[0] == "calm":
            return f"calm {len(told[1])} {max(max(row) for row in told[2])}"
        return f"swings {told[2]} {told[3]} {load_text(told[1])}"

    def fewest_text(self, told):
        return "none" if told[0] is None else f"fewest {told[0]}"


class Asked(Desks):

    def test_two_desks_and_what_is_asked_between(self):
        one, other = Desk(TEXT), Desk(TEXT)
        for text in ASKS:
            told = one.ask(text)
            for word in ("yard", "hands", "stand cut", "counts pack", "bound sew 0/1 300"):
                one.ask(word)
            self.assert_refused(one, "beat none 5")
            self.assertEqual(other.ask(text), told)
        self.assertEqual(picture(one), picture(other))

    def test_desks_share_nothing(self):
        one, other = Desk(TEXT), Desk(TEXT)
        ahead = picture(other)
        for text in ASKS:
            one.ask(text)
        self.assertEqual(picture(other), ahead)
        self.assert_refused(other, "back a")


if __name__ == "__main__":
    unittest.main()
