package unfold

import (
	"strings"
	"testing"

	"chcsolver/api"
	"chcsolver/certificate"
	"chcsolver/system"
)

func parse(t *testing.T, src string) api.System {
	t.Helper()
	s, at, e := system.Parse(src)
	if e != api.OK {
		t.Fatal(src, at, e)
	}
	return s
}

const text = "(declare-fun P (Int) Bool)(declare-fun Q (Int) Bool)(assert (forall ((x Int)) (=> (= x 0) (P x))))(assert (forall ((x Int)) (=> (and (P x) (< x 0)) false)))(assert (forall ((x Int)) (=> (Q x) (P x))))(assert (Q (- 1)))(assert (forall ((x Int)) (=> (P x) (Q (- x 1)))))"

func TestP211Find(t *testing.T) {
	s := parse(t, text)
	for _, c := range []struct {
		clause, atom int
		e            api.Errno
	}{{1, 0, api.OK}, {2, 0, api.OK}, {4, 0, api.OK}, {5, 0, api.ErrForm}, {-1, 0, api.ErrForm}, {1, 1, api.ErrForm}, {1, -1, api.ErrForm}, {0, 0, api.ErrForm}} {
		x, e := Find(s, c.clause, c.atom)
		if e != c.e || e == api.OK && (x.Kind != api.TransUnfold || x.Clause != c.clause || x.Atom != c.atom) {
			t.Error(c, e)
		}
	}
	if _, e := Find(api.System{Preds: []api.Func{{}}}, 9, 0); e != api.ErrInvalid {
		t.Error(e)
	}
	s = parse(t, "(declare-fun P (Int) Bool)(assert (forall ((x Int) (y Int)) (=> (and (P x) (< x y)) (P y))))(assert (forall ((x Int)) (=> (and (P x) (< x 0)) false)))")
	if _, e := Find(s, 0, 0); e != api.ErrRecursive {
		t.Error(e)
	}
	if _, e := Find(s, 1, 0); e != api.ErrForm {
		t.Error(e)
	}
}

func TestP212Apply(t *testing.T) {
	s := parse(t, text)
	x, _ := Find(s, 1, 0)
	a, e := Apply(s, x)
	got := system.Format(a)
	if e != api.OK || len(a.Clauses) != 6 || !strings.Contains(got, "(forall ((x Int) (x!1 Int)) (=> (and (and (< x 0) (= x x!1) (= x!1 0))) false))") || !strings.Contains(got, "(=> (and (Q x!1) (and (< x 0) (= x x!1) true)) false)") {
		t.Error(got, e)
	}
	for _, x := range []api.Transform{{}, {Kind: api.TransUnfold, Pred: "P", Clause: 1}, {Kind: api.TransInline, Clause: 1}} {
		if _, e := Apply(s, x); e != api.ErrInvalid {
			t.Error(e)
		}
	}
	eight := parse(t, "(declare-fun P () Bool)(declare-fun Q () Bool)(assert (=> (and Q Q Q Q Q Q Q Q) P))(assert (not (and P P)))")
	if _, e := Find(eight, 1, 0); e != api.ErrLimit {
		t.Error(e)
	}
}

func TestP213Models(t *testing.T) {
	s := parse(t, text)
	x, _ := Find(s, 1, 0)
	m, _, _ := certificate.ParseModel("(define-fun P ((p Int)) Bool (< p 3))(define-fun Q ((q Int)) Bool (< q 2))")
	b, e := Model(s, x, m)
	if e != api.OK || certificate.FormatModel(b) != "(define-fun P ((y0 Int)) Bool (or (and (= y0 y0) (= y0 0)) (and (= y0 y0) true (< y0 2))))\n(define-fun Q ((q Int)) Bool (< q 2))\n" {
		t.Error(certificate.FormatModel(b), e)
	}
	if f, e := ModelForward(s, x, m); e != api.OK || certificate.FormatModel(f) != certificate.FormatModel(m) {
		t.Error(e)
	}
	if _, e := Model(s, x, api.Model{}); e != api.ErrInvalid {
		t.Error(e)
	}
}

func TestP214Trees(t *testing.T) {
	s := parse(t, text)
	x, _ := Find(s, 1, 0)
	a, _ := Apply(s, x)
	for src, want := range map[string]string{"(1 ((- 1)) (2 ((- 1)) (3 ())))": "(2 ((- 1) (- 1)) (4 ()))", "(1 ((- 1)) (2 ((- 1)) (4 (0) (0 (0)))))": "(2 ((- 1) (- 1)) (5 (0) (0 (0))))", "(2 ((- 1)) (3 ()))": "(3 ((- 1)) (4 ()))"} {
		d, _, e := certificate.ParseTree(s, src)
		if e != api.OK || certificate.CheckTree(s, d) != api.OK {
			t.Fatal(e)
		}
		f, e := TreeForward(s, x, d)
		if e != api.OK || certificate.FormatTree(a, f) != want || certificate.CheckTree(a, f) != api.OK {
			t.Error(certificate.FormatTree(a, f), e)
		}
		if b, e := Tree(s, x, f); e != api.OK || certificate.FormatTree(s, b) != src {
			t.Error(certificate.FormatTree(s, b), e)
		}
	}
	if _, e := Tree(s, x, nil); e != api.ErrProof {
		t.Error(e)
	}
	if _, e := TreeForward(s, x, nil); e != api.ErrProof {
		t.Error(e)
	}
}
