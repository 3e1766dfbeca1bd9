package slice

import (
	"slices"
	"testing"

	"chcsolver/api"
	"chcsolver/certificate"
	"chcsolver/system"
)

func parse(t *testing.T, src string) api.System {
	t.Helper()
	s, at, e := system.Parse(src)
	if e != api.OK {
		t.Fatal(src, at, e)
	}
	return s
}

const text = "(declare-fun P (Int) Bool)(declare-fun Q (Int) Bool)(declare-fun R (Int) Bool)(declare-fun S () Bool)(assert (forall ((x Int)) (=> (= x 0) (P x))))(assert (forall ((x Int)) (=> (P x) (Q x))))(assert (forall ((x Int)) (=> (R x) (R x))))(assert (forall ((x Int)) (=> (and (R x) S) (P x))))(assert (forall ((x Int)) (=> (and (P x) (< x 0)) false)))(assert (forall ((x Int)) (=> (and (R x) S) false)))(assert S)(assert (forall ((x Int)) (=> (and (P x) (= x 1)) (P x))))"

func TestP181Find(t *testing.T) {
	x, e := Find(parse(t, text))
	if e != api.OK || x.Kind != api.TransSlice || !slices.Equal(x.Unneeded, []string{"Q", "S"}) || !slices.Equal(x.Underived, []string{"R"}) || x.Pred != "" {
		t.Error(x, e)
	}
	if _, e := Find(api.System{Preds: []api.Func{{}}}); e != api.ErrInvalid {
		t.Error(e)
	}
	if x, e := Find(parse(t, "(declare-fun A () Bool)(assert A)(assert (not A))")); e != api.OK || len(x.Unneeded)+len(x.Underived) > 0 {
		t.Error(x, e)
	}
}

func TestP182Apply(t *testing.T) {
	s := parse(t, text)
	x, _ := Find(s)
	a, e := Apply(s, x)
	if e != api.OK || len(a.Preds) != 1 || len(a.Clauses) != 3 || !system.Valid(a) {
		t.Error(system.Format(a), e)
	}
	for i, c := range []struct {
		unneeded, underived []string
		e                   api.Errno
	}{{nil, nil, api.OK}, {[]string{"Q"}, nil, api.OK}, {[]string{"Z"}, nil, api.ErrForm}, {[]string{"Q"}, []string{"Q"}, api.ErrForm}, {[]string{"Q", "Q"}, nil, api.ErrForm}, {nil, []string{"P"}, api.ErrForm}, {nil, []string{"R"}, api.OK}, {[]string{"P"}, nil, api.ErrForm}, {[]string{"S"}, nil, api.ErrForm}, {[]string{"R"}, nil, api.ErrForm}, {nil, []string{"S"}, api.ErrForm}} {
		if _, e := Apply(s, api.Transform{Kind: api.TransSlice, Unneeded: c.unneeded, Underived: c.underived}); e != c.e {
			t.Error(i, e)
		}
	}
	for _, x := range []api.Transform{{}, {Kind: api.TransSlice, Pred: "P"}, {Kind: api.TransSlice, Clause: 1}} {
		_, e := Apply(s, x)
		_, e2 := Model(s, x, api.Model{})
		_, e3 := TreeForward(s, x, nil)
		if e != api.ErrInvalid || e2 != e || e3 != e {
			t.Error(x, e)
		}
	}
}

func TestP183Maps(t *testing.T) {
	s := parse(t, text)
	x, _ := Find(s)
	a, _ := Apply(s, x)
	m, _, _ := certificate.ParseModel("(define-fun P ((z Int)) Bool (= z 0))")
	b, e := Model(s, x, m)
	if e != api.OK || certificate.FormatModel(b) != "(define-fun P ((z Int)) Bool (= z 0))\n(define-fun Q ((p0 Int)) Bool true)\n(define-fun R ((p0 Int)) Bool false)\n(define-fun S () Bool true)\n" {
		t.Error(certificate.FormatModel(b), e)
	}
	if f, e := ModelForward(s, x, b); e != api.OK || certificate.FormatModel(f) != certificate.FormatModel(m) {
		t.Error(e)
	}
	if _, e := Model(s, x, b); e != api.ErrInvalid {
		t.Error(e)
	}
	if _, e := ModelForward(s, x, m); e != api.ErrInvalid {
		t.Error(e)
	}
	s = parse(t, "(declare-fun R () Bool)(declare-fun Q () Bool)(declare-fun P () Bool)(assert (=> R R))(assert P)(assert (=> P Q))(assert (not P))")
	x, _ = Find(s)
	a, _ = Apply(s, x)
	d, _, _ := certificate.ParseTree(s, "(3 () (1 ()))")
	f, e := TreeForward(s, x, d)
	if e != api.OK || certificate.FormatTree(a, f) != "(1 () (0 ()))" {
		t.Error(f, e)
	}
	if b, e := Tree(s, x, f); e != api.OK || certificate.FormatTree(s, b) != "(3 () (1 ()))" {
		t.Error(b, e)
	}
	d, _, _ = certificate.ParseTree(s, "(2 () (1 ()))")
	if _, e := TreeForward(s, x, d); e != api.ErrForm {
		t.Error(e)
	}
	if _, e := TreeForward(s, x, d[:1]); e != api.ErrProof {
		t.Error(e)
	}
	if _, e := Tree(s, x, d); e != api.ErrProof {
		t.Error(e)
	}
}
