"""Promises k37 and k38, points [1], [5], [8], [9], [13], [28] to [31]: tongues, labels, wordings, paper texts."""

import unittest

from slipleaf.classes import Classes
from slipleaf.conditions import holds
from slipleaf.errors import BadAnswer, BadRecord, BadTongue, BadUse, NotAsked, Unknown
from slipleaf.forms import Form
from slipleaf.kinds import answers_of, ticked
from slipleaf.reading import read_form
from slipleaf.tongues import Tongue
from tests.helper import ALWAYS, ODD_THINGS, LeafCase, ask, nots
from tests.makers import NUMERALS, ONE_OR_MORE, WORDS, plain_labels, random_texts, tongue_of
from tests.oracle import all_records, random_form, seeded, values_of

HOUSE = read_form(
    "ask own pick 2\nask pets tick 3\nask kids count 0 3\nask ages count 0 99 when from kids 1 3\nask last pick 2"
)
LABELS = {"own": ("No, rented", "Yes"), "pets": ("cats", "dogs", "fish"), "last": ("no", "yes")}
TEXTS = {
    "own": ("Is it yours?",), "pets": (), "kids": ("How many? You said ", ("label", "own"), "."),
    "ages": (
        "You have ", ("words", "kids"), " ", ("figures", "kids"), " ",
        ("by", "kids", ("child", "children")), ", and ", ("label", "pets"),
    ),
    "last": (("if", ("asked", "ages"), ("age ", ("figures", "ages")), ("no ", ("if", ("has", "pets", 0), ("cat",), ()))),),
}


def house(**changed):
    """Return the tongue of the house, with some arguments changed."""
    told = {"numerals": NUMERALS, "classes": ONE_OR_MORE, "texts": TEXTS, "labels": LABELS, "words": WORDS}
    return Tongue(HOUSE, **{**told, **changed})


def with_text(name, pieces):
    """Return the tongue of the house with one other text."""
    return house(texts={**TEXTS, name: pieces})


def said(tongue, form, labels, pieces, values):
    """Return what pieces say, or the name at which they fail, as the words of [28] and [30] tell it: a pair."""
    text = ""
    for piece in pieces:
        if isinstance(piece, str):
            text += piece
            continue
        if piece[0] == "if":
            more, failed = said(tongue, form, labels, piece[2] if holds(piece[1], values) else piece[3], values)
            if failed is not None:
                return None, failed
            text += more
            continue
        value = values[piece[1]]
        if value is None:
            return None, piece[1]
        if piece[0] == "label":
            told = [labels[piece[1]][box] for box in ticked(form.kind_of(piece[1]), value)]
            text += f" {tongue.words[4]} ".join([", ".join(told[:-1])] * (len(told) > 1) + [told[-1]])
        elif piece[0] == "by":
            text += piece[2][tongue.classes.class_of(value)]
        else:
            text += str(value) if piece[0] == "figures" else tongue.numerals(value)
    return text, None


def on_paper(form, pieces):
    """Return the paper text of pieces, as the words of [31] tell it."""
    text = ""
    for piece in pieces:
        if isinstance(piece, str):
            text += piece
        elif piece[0] == "if":
            text += "[" + on_paper(form, piece[2]) + "/" + on_paper(form, piece[3]) + "]"
        elif piece[0] == "by":
            text += "[" + "/".join(piece[2]) + "]"
        else:
            text += f"({form.names.index(piece[1]) + 1})"
    return text


class Labels(LeafCase):
    def test_labels(self):
        tongue = house()
        for name, answer, label in (
            ("own", 0, "No, rented"), ("own", 1, "Yes"), ("pets", 1, "cats"), ("pets", 3, "cats and dogs"),
            ("pets", 5, "cats and fish"), ("pets", 7, "cats, dogs and fish"), ("pets", 4, "fish"),
        ):
            self.assertEqual(tongue.label(name, answer), label)
        four = read_form("ask a tick 4")
        labels = {"a": ("w", "x", "y", "z")}
        self.assertEqual(tongue_of(four, labels=labels, words=("a", "b", "c", "dd", "und")).label("a", 15), "w, x, y und z")

    def test_errors_in_order(self):
        tongue = house()
        for name in ("", "cats", "q"):
            self.assert_error(Unknown(name), tongue.label, name, None)
        for answer in (0, 5, None):
            self.assert_error(BadUse("kids"), tongue.label, "kids", answer)
        for answer in ODD_THINGS + (-1, -2, 2, 8):
            self.assert_error(BadAnswer("own"), tongue.label, "own", answer)
        for answer in (0, 8, -1, None, True):
            self.assert_error(BadAnswer("pets"), tongue.label, "pets", answer)


class Wordings(LeafCase):
    def test_examples(self):
        tongue = house()
        record = (1, 3, 2, 40, 0)
        for name, text in (
            ("own", "Is it yours?"), ("pets", ""), ("kids", "How many? You said Yes."),
            ("ages", "You have two 2 children, and cats and dogs"), ("last", "age 40"),
        ):
            self.assertEqual(tongue.wording(name, record), text)
        self.assertEqual(tongue.wording("last", (0, 1, 0, None, 1)), "no cat")
        self.assertEqual(tongue.wording("last", (0, 2, 0, None, 1)), "no ")
        self.assertEqual(tongue.wording("ages", (0, 2, 1, 5, 1)), "You have one 1 child, and dogs")

    def test_errors_in_order(self):
        tongue = with_text("last", ("x", ("figures", "ages"), ("label", "own"), ("words", "ages")))
        for name in ("", "x"):
            self.assert_error(Unknown(name), tongue.wording, name, None)
        for thing in ODD_THINGS + ((0, 1, 0, 5, 0), [0, 1, 0, None, 0], (0, 1, 0, None), (0, 0, 0, None, 0)):
            self.assert_error(BadRecord(0), tongue.wording, "ages", thing)
        self.assert_error(NotAsked("ages"), tongue.wording, "ages", (0, 1, 0, None, 0))
        self.assert_error(NotAsked("ages"), tongue.wording, "last", (0, 1, 0, None, 0))
        self.assertEqual(tongue.wording("last", (0, 1, 1, 7, 0)), "x7No, rentedseven")

    def test_the_first_piece_that_is_reached_fails(self):
        form = read_form("ask a pick 2\nask b count 0 9 when is a 1\nask c tick 2 when is a 1\nask d pick 2")
        last = (
            ("if", ("is", "a", (1,)), (("figures", "b"),), ("none ", ("if", ("asked", "b"), (("words", "b"),), ()))),
            ("label", "c"), ("by", "b", ("x", "y")),
        )
        texts = {"a": (), "b": (), "c": (), "d": last}
        tongue = tongue_of(form, texts=texts)
        self.assert_error(NotAsked("c"), tongue.wording, "d", (0, None, None, 0))
        self.assertEqual(tongue.wording("d", (1, 1, 2, 0)), "1c no 1x")
        swapped = tongue_of(form, texts={**texts, "d": last[::-1]})
        self.assert_error(NotAsked("b"), swapped.wording, "d", (0, None, None, 0))

    def test_as_the_words_tell(self):
        fine, failing = 0, 0
        for rng in seeded(80):
            form = random_form(rng)
            texts, labels = random_texts(rng, form), plain_labels(form)
            tongue = tongue_of(form, texts=texts)
            for name in form.names:
                self.assertEqual(tongue.paper_text(name), on_paper(form, texts[name]))
            for record in rng.sample(all_records(form), min(8, len(all_records(form)))):
                for name, value in zip(form.names, record):
                    if value is None:
                        self.assert_error(NotAsked(name), tongue.wording, name, record)
                        continue
                    text, failed = said(tongue, form, labels, texts[name], values_of(form, record))
                    if failed is None:
                        self.assertEqual(tongue.wording(name, record), text)
                        fine += 1
                    else:
                        self.assert_error(NotAsked(failed), tongue.wording, name, record)
                        failing += 1
        self.assertGreater(min(fine, failing), 50)

    def test_labels_as_the_words_tell(self):
        for kind in (("pick", 6), ("tick", 2), ("tick", 4)):
            form = Form([ask("a", kind)])
            labels = plain_labels(form)
            tongue = tongue_of(form)
            for answer in answers_of(kind):
                text, _ = said(tongue, form, labels, (("label", "a"),), {"a": answer})
                self.assertEqual(tongue.label("a", answer), text)


class PaperTexts(LeafCase):
    def test_examples(self):
        tongue = house()
        for name, text in (
            ("own", "Is it yours?"), ("pets", ""), ("kids", "How many? You said (1)."),
            ("ages", "You have (3) (3) [child/children], and (2)"), ("last", "[age (4)/no [cat/]]"),
        ):
            self.assertEqual(tongue.paper_text(name), text)
        for name in ("", "x"):
            self.assert_error(Unknown(name), tongue.paper_text, name)

    def test_bounds_of_its_length(self):
        full = "x" * 60
        self.assertEqual(len(with_text("own", (full,) * 10).paper_text("own")), 600)
        self.assertEqual(with_text("own", (full,) * 10 + ("", "")).paper_text("own"), full * 10)
        self.assert_error(BadTongue("own"), with_text, "own", (full,) * 10 + ("x",))
        inner = ("if", ALWAYS, (full,) * 4, (full,) * 5)
        self.assertEqual(len(with_text("own", (inner, "x" * 57)).paper_text("own")), 600)
        self.assert_error(BadTongue("own"), with_text, "own", (inner, "x" * 58))
        by = ("by", "kids", (full, full))
        self.assertEqual(len(with_text("last", (by,) * 4 + (full, "x" * 48)).paper_text("last")), 600)
        self.assert_error(BadTongue("last"), with_text, "last", (by,) * 4 + (full, "x" * 49))
        self.assertEqual(len(with_text("last", (full,) * 9 + ("x" * 57, ("label", "own"))).paper_text("last")), 600)
        self.assert_error(BadTongue("last"), with_text, "last", (full,) * 9 + ("x" * 58, ("label", "own")))


class RightTongues(LeafCase):
    def test_attributes(self):
        tongue = house()
        self.assertEqual((tongue.form, tongue.numerals, tongue.classes, tongue.words), (HOUSE, NUMERALS, ONE_OR_MORE, WORDS))
        empty = Tongue(Form(()), numerals=NUMERALS, classes=ONE_OR_MORE, texts={}, labels={}, words=WORDS)
        self.assertEqual(list(empty.flaws()), [])

    def test_texts_at_their_bounds(self):
        for pieces in (
            (), ("",) * 12, ("~ !#$&'*+,-./:;<=>?@^_`{|}\\\"",), (("if", ALWAYS, ("",) * 6, ()),),
            (("if", ALWAYS, (("if", ALWAYS, (("if", ALWAYS, (), ()),), ()),), ()),), (("if", nots(119), (), ("x",)),),
            (("by", "kids", ("x" * 60, "")),), (("label", "own"), ("label", "pets")),
            (("if", ("sum", ("kids", "ages"), 0, 495), (), ()), ("words", "ages")),
        ):
            self.assertEqual(with_text("last", pieces).paper_text("last"), on_paper(HOUSE, pieces))

    def test_words_and_labels_at_their_bounds(self):
        words = ("a", "b" * 10, "c", "any", "e" * 10)
        self.assertEqual(house(words=words).words, words)
        self.assertEqual(house(words=("x", "x", "x", "xx", "x")).words[3], "xx")
        labels = {**LABELS, "own": ("(" * 40, "[a/b] c")}
        self.assertEqual(house(labels=labels).label("own", 0), "(" * 40)

    def test_other_classes(self):
        four = Classes([(100, (1,), 0, 99), (100, (2,), 0, 99), (100, (3,), 0, 99)])
        texts = {**TEXTS, "ages": (("by", "kids", ("one", "two", "three", "none")),)}
        self.assertEqual(house(classes=four, texts=texts).wording("ages", (0, 1, 3, 0, 0)), "three")
        self.assert_error(BadTongue("ages"), house, classes=four)
        self.assert_error(BadTongue("ages"), house, classes=Classes([]))

    def test_dicts_that_are_changed_behind_the_call(self):
        texts, labels = dict(TEXTS), dict(LABELS)
        tongue = house(texts=texts, labels=labels)
        texts["own"] = ("Other",)
        labels["own"] = ("x", "y")
        del texts["kids"]
        record = (1, 1, 1, 5, 0)
        self.assertEqual(tongue.wording("kids", record), "How many? You said Yes.")
        self.assertEqual((tongue.wording("own", record), tongue.paper_text("own")), ("Is it yours?",) * 2)
        self.assertEqual((len(texts), len(labels)), (4, 3))


class BadTongues(LeafCase):
    def test_words(self):
        for words in ODD_THINGS + (
            WORDS[:4], WORDS + ("x",), list(WORDS), ("", "b", "c", "dd", "e"), ("a", "b", "c", "d", "e"),
            ("a" * 11, "b", "c", "dd", "e"), ("a", "b", "c", "dd", "e" * 11), ("A", "b", "c", "dd", "e"),
            ("a", "b ", "c", "dd", "e"), ("a", "b", 5, "dd", "e"), ("a", "b", "c", None, "e"), ("a", "b", "c", "d-d", "e"),
        ):
            self.assert_error(BadTongue(""), house, words=words, texts={})

    def test_what_is_no_question_goes_first(self):
        for changed in (
            {"texts": {**TEXTS, "x": ("x",)}}, {"texts": {"x": ()}}, {"labels": {**LABELS, "x": ("a", "b")}},
            {"labels": {**LABELS, "kids": ("a", "b")}}, {"labels": {**LABELS, "kids": ()}}, {"texts": {"": ()}},
        ):
            self.assert_error(BadTongue(""), house, **changed)

    def test_missing_texts_and_labels(self):
        for name in HOUSE.names:
            texts = {other: TEXTS[other] for other in TEXTS if other != name}
            self.assert_error(BadTongue(name), house, texts=texts)
        for name in LABELS:
            labels = {other: LABELS[other] for other in LABELS if other != name}
            self.assert_error(BadTongue(name), house, labels=labels)
        # The first question goes first, whether its text or its labels are wrong.
        self.assert_error(BadTongue("own"), house, texts={}, labels={})
        self.assert_error(BadTongue("own"), house, texts={**TEXTS, "pets": 5}, labels={})
        self.assert_error(BadTongue("pets"), house, texts={**TEXTS, "kids": 5}, labels={"own": LABELS["own"]})

    def test_wrong_pieces(self):
        for piece in [thing for thing in ODD_THINGS if not isinstance(thing, str)] + [
            "x" * 61, "(", "a)", "[b", "c]", "50%", "two\nlines", "\x7f", "\x1f", "gr\xfc\xdf", b"x", ["x"],
            ("label",), ("label", "own", 1), ("label", "kids"), ("label", "last"), ("label", "x"), ("label", 5), ("label", ["own"]),
            ("figures", {}), ("by", [], ("a", "b")), ["label", "own"],
            ("figures", "own"), ("figures", "pets"), ("figures",), ("figures", "kids", 2), ("figures", "x"), ("words", "own"),
            ("words", "last"), ("by", "kids"), ("by", "kids", ("a",)), ("by", "kids", ("a", "b", "c")), ("by", "own", ("a", "b")),
            ("by", "kids", ["a", "b"]), ("by", "kids", ("a", "(")), ("by", "kids", ("a", "b" * 61)), ("by", "kids", ("a", None)),
            ("by", "kids", "ab"), ("text", "kids"), ("if", ALWAYS, ()), ("if", ALWAYS, (), (), ()), ("if", ALWAYS, [], ()),
            ("if", ALWAYS, (), "x"), ("if", ALWAYS, ("",) * 7, ()), ("if", ALWAYS, (), ("",) * 7), ("if", (), (), ()),
            ("if", ("asked", "last"), (), ()), ("if", ("asked", "x"), (), ()), ("if", ("is", "kids", (1,)), (), ()),
            ("if", ("is", "own", (2,)), (), ()), ("if", ("has", "pets", 3), (), ()), ("if", ("same", "own", "pets"), (), ()),
            ("if", ("and", ALWAYS, ("from", "own", 0, 1)), (), ()), ("if", nots(120), (), ()), ("if", ALWAYS, (("label",),), ()),
            ("if", ALWAYS, (), (("figures", "own"),)), ("if", "always", (), ()), ("if", ["always"], (), ()), nots(120),
            ("if", ALWAYS, (("if", ALWAYS, (("if", ALWAYS, (("if", ALWAYS, (), ()),), ()),), ()),), ()),
            ("if", ALWAYS, (), (("if", ALWAYS, (), (("if", ALWAYS, (), (("if", ALWAYS, (), ()),)),)),)),
        ]:
            self.assert_error(BadTongue("last"), with_text, "last", ("fine", piece))
            self.assert_error(BadTongue("last"), with_text, "last", (("if", ALWAYS, ("fine",), (piece,)),))

    def test_wrong_texts(self):
        for pieces in [thing for thing in ODD_THINGS if thing != () and thing != ("",)] + [
            "text", ["text"], ("",) * 13, {"a": 1}, None,
        ]:
            self.assert_error(BadTongue("pets"), with_text, "pets", pieces)

    def test_questions_that_do_not_stand_ahead(self):
        for name, piece in (("own", ("label", "own")), ("pets", ("label", "last")), ("kids", ("figures", "ages"))):
            self.assert_error(BadTongue(name), with_text, name, (piece,))

    def test_wrong_labels(self):
        for labels in list(ODD_THINGS) + [
            ("a",), ("a", "b", "c"), ["a", "b"], "ab", ("a", ""), ("a", "b" * 41), ("a", " b"), ("a ", "b"), ("a", "b  c"),
            ("a", "5%"), ("a", "b\nc"), ("a", None), ("a", 5), ("a", "\xfc"), (" ", "a"),
        ]:
            self.assert_error(BadTongue("own"), house, labels={**LABELS, "own": labels})

    def test_too_much_standing(self):
        items = [ask("a", ("count", 0, 62)), ask("b", ("count", 0, 62)), ask("c", ("pick", 2)), ask("d")]
        texts = {"a": (), "b": (), "c": (("figures", "a"), ("if", ("from", "b", 0, 9), (), ())), "d": ()}
        self.assertEqual(tongue_of(Form(items), texts=texts).wording("c", (5, 5, 0, 0)), "5")
        # Together with c they have a weight above 4,096 at the place of d.
        all_three = (("figures", "a"), ("if", ("from", "b", 0, 9), (), (("label", "c"),)))
        self.assert_error(BadTongue("d"), tongue_of, Form(items), texts={**texts, "d": all_three})
        for pieces in (
            (("if", ("from", "b", 0, 9), (("label", "c"),), (("words", "a"),)),), (("by", "a", ("", "")), ("if", ALWAYS, (
                ("if", ("same", "a", "b"), (), (("label", "c"),)),), ())),
        ):
            self.assert_error(BadTongue("d"), tongue_of, Form(items), texts={**texts, "d": pieces})
        # What the form needs itself counts, too.
        held = Form(items[:3] + [ask("d", ("pick", 2), ("is", "c", (1,)))])
        both = (("figures", "a"), ("figures", "b"))
        self.assert_error(BadTongue("d"), tongue_of, held, texts={**texts, "d": both})
        self.assertEqual(tongue_of(Form(items), texts={**texts, "d": both}).paper_text("d"), "(1)(2)")
        # Two texts are not looked at together.
        apart = {**texts, "c": (("figures", "a"),), "d": (("figures", "b"), ("label", "c"))}
        self.assertEqual(tongue_of(Form(items), texts=apart).paper_text("d"), "(2)(3)")


if __name__ == "__main__":
    unittest.main()
