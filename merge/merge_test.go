package merge

import (
	"strings"
	"testing"

	"chcsolver/api"
	"chcsolver/certificate"
	"chcsolver/system"
)

func parse(t *testing.T, src string) api.System {
	t.Helper()
	s, at, e := system.Parse(src)
	if e != api.OK {
		t.Fatal(src, at, e)
	}
	return s
}

const text = "(declare-fun Z (Int) Bool)(declare-fun Q (Int) Bool)(declare-fun P (Int) Bool)(assert (forall ((x Int)) (=> (= x 0) (P x))))(assert (forall ((x Int)) (=> (Q (- x 1)) (P x))))(assert (forall ((x Int)) (=> (= x 0) (Q x))))(assert (forall ((x Int)) (=> (P (- x 1)) (Q x))))(assert (forall ((x Int)) (=> (and (P x) (Q x) (= x 2)) false)))(assert (Z 1))"

func TestP221Find(t *testing.T) {
	x, e := Find(parse(t, text))
	if e != api.OK || x.Kind != api.TransMerge || x.Pred != "P" || x.Into != "Q" {
		t.Error(x, e)
	}
	if _, e := Find(parse(t, "(declare-fun P (Int) Bool)(declare-fun Q (Bool) Bool)(declare-fun R (Int) Bool)(assert (R 1))")); e != api.ErrForm {
		t.Error(e)
	}
	x, e = Find(parse(t, "(declare-fun A () Bool)(declare-fun B () Bool)(declare-fun C () Bool)(assert (=> A B))(assert (=> B B))(assert (=> A C))(assert (=> B C))"))
	if e != api.OK || x.Pred != "C" || x.Into != "B" {
		t.Error(x, e)
	}
	if _, e := Find(api.System{Preds: []api.Func{{}}}); e != api.ErrInvalid {
		t.Error(e)
	}
}

func TestP222Apply(t *testing.T) {
	s := parse(t, text)
	x, _ := Find(s)
	a, e := Apply(s, x)
	got := system.Format(a)
	if e != api.OK || len(a.Clauses) != 4 || strings.Contains(got, "P") || !strings.Contains(got, "(=> (and (Q (+ x (- 1))) true) (Q x))") || !system.Valid(a) {
		t.Error(got, e)
	}
	for i, c := range []struct {
		pred, into string
		e          api.Errno
	}{{"Q", "P", api.OK}, {"P", "P", api.ErrForm}, {"P", "Z", api.ErrForm}, {"A", "P", api.ErrForm}, {"P", "", api.ErrForm}} {
		if _, e := Apply(s, api.Transform{Kind: api.TransMerge, Pred: c.pred, Into: c.into}); e != c.e {
			t.Error(i, e)
		}
	}
	for _, x := range []api.Transform{{}, {Kind: api.TransMerge, Pred: "P", Into: "Q", Atom: 1}} {
		_, e := Apply(s, x)
		if _, e2 := ModelForward(s, x, api.Model{}); e != api.ErrInvalid || e2 != e {
			t.Error(e)
		}
	}
}

func TestP223Models(t *testing.T) {
	s := parse(t, text)
	x, _ := Find(s)
	m, _, _ := certificate.ParseModel("(define-fun Z ((a Int)) Bool true)(define-fun Q ((a Int)) Bool (<= 0 a))")
	b, e := Model(s, x, m)
	if e != api.OK || certificate.FormatModel(b) != certificate.FormatModel(m)+"(define-fun P ((a Int)) Bool (<= 0 a))\n" {
		t.Error(certificate.FormatModel(b), e)
	}
	b.Defs[2].Params[0].Name, b.Defs[2].Body[2].Name = "b", "b"
	f, e := ModelForward(s, x, b)
	if e != api.OK || certificate.FormatModel(f) != "(define-fun Z ((a Int)) Bool true)\n(define-fun Q ((a Int)) Bool (and (<= 0 a) (<= 0 a)))\n" {
		t.Error(certificate.FormatModel(f), e)
	}
	if _, e := Model(s, x, b); e != api.ErrInvalid {
		t.Error(e)
	}
}

func TestP224Trees(t *testing.T) {
	s := parse(t, text)
	x, _ := Find(s)
	a, _ := Apply(s, x)
	src := "(4 (2) (1 (2) (3 (1) (0 (0)))) (3 (2) (1 (1) (2 (0)))))"
	d, _, e := certificate.ParseTree(s, src)
	if e != api.OK || !certificate.Refutes(s, d) {
		t.Fatal(e)
	}
	f, e := TreeForward(s, x, d)
	if e != api.OK || !certificate.Refutes(a, f) || certificate.FormatTree(a, f) != "(2 (2) (1 (2) (1 (1) (0 (0)))) (1 (2) (1 (1) (0 (0)))))" {
		t.Error(certificate.FormatTree(a, f), e)
	}
	if b, e := Tree(s, x, f); e != api.OK || certificate.FormatTree(s, b) != src {
		t.Error(certificate.FormatTree(s, b), e)
	}
	if _, e := Tree(s, x, nil); e != api.ErrProof {
		t.Error(e)
	}
	if _, e := TreeForward(s, x, d[:2]); e != api.ErrProof {
		t.Error(e)
	}
}
