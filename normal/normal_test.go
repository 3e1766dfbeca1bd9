package normal

import (
	"reflect"
	"strings"
	"testing"

	"chcsolver/api"
	"chcsolver/certificate"
	"chcsolver/system"
)

func parse(t *testing.T, src string) api.System {
	t.Helper()
	s, at, e := system.Parse(src)
	if e != api.OK {
		t.Fatal(src, at, e)
	}
	return s
}

const text = `(declare-fun P (Int Int) Bool)(declare-fun a () Bool)
(assert (forall ((x Int)) (=> (and (P x x) (or (< x 3) (< 5 x))) (P (+ x 1) (+ x 1)))))
(assert (P 0 0))
(assert (forall ((x Int)) (=> (and (P x 1) a (= x 1)) false)))
(assert a)`

var all = api.Transform{Kind: api.TransNormal}

func TestP171Apply(t *testing.T) {
	s := parse(t, text)
	x, e := Find(s)
	if e != api.OK || !reflect.DeepEqual(x, all) {
		t.Error(x, e)
	}
	n, e := Apply(s, x)
	got := system.Format(n)
	if e != api.OK || len(n.Clauses) != 5 {
		t.Fatal(got, e)
	}
	for _, line := range []string{
		"(forall ((x Int) (a!1 Int) (a!2 Int) (a!3 Int)) (=> (and (P x a!1) (and (< x 3) (= a!1 x) (= a!2 (+ x 1)) (= a!3 (+ x 1)))) (P a!2 a!3)))", "(and (< 5 x) (= a!1 x)", "(forall ((a!1 Int) (a!2 Int)) (=> (and (and (= a!1 0) (= a!2 0))) (P a!1 a!2)))", "(=> (and (P x a!1) a (and (= x 1) (= a!1 1))) false)",
	} {
		if !strings.Contains(got, line) {
			t.Error(line, got)
		}
	}
	if again, e := Apply(n, x); e != api.OK || !reflect.DeepEqual(again, n) {
		t.Error(system.Format(again), e)
	}
	many := parse(t, "(declare-fun P (Int) Bool)(assert (forall ((x Int)) (=> (and (P x) "+strings.Repeat("(or (< x 1) (< 2 x)) ", 7)+strings.Repeat("(or (= x 1) (= 2 x) (= 3 x)) ", 4)+") false)))")
	if _, e := Apply(many, x); e != api.ErrLimit {
		t.Error(e)
	}
	if _, e := Find(api.System{Preds: []api.Func{{}}}); e != api.ErrInvalid {
		t.Error(e)
	}
}

func TestP171P172Errors(t *testing.T) {
	s := parse(t, text)
	bad := api.System{Preds: []api.Func{{}}}
	for i, c := range []struct {
		s api.System
		x api.Transform
	}{{bad, all}, {s, api.Transform{}}, {s, api.Transform{Kind: api.TransSlice}}, {s, api.Transform{Kind: 1, Pred: "P"}}, {s, api.Transform{Kind: 1, Atom: 1}}, {s, api.Transform{Kind: 1, Drops: make([]api.Drop, 1)}}} {
		_, e := Apply(c.s, c.x)
		_, e2 := Model(c.s, c.x, api.Model{})
		_, e3 := ModelForward(c.s, c.x, api.Model{})
		_, e4 := Tree(c.s, c.x, nil)
		_, e5 := TreeForward(c.s, c.x, nil)
		if e != api.ErrInvalid || e2 != e || e3 != e || e4 != e || e5 != e {
			t.Error(i, e, e2, e3, e4, e5)
		}
	}
	if _, e := Model(s, all, api.Model{}); e != api.ErrInvalid {
		t.Error(e)
	}
	if _, e := Tree(s, all, nil); e != api.ErrProof {
		t.Error(e)
	}
	if _, e := TreeForward(s, all, api.Tree{{Clause: 0}}); e != api.ErrProof {
		t.Error(e)
	}
}

func TestP172Maps(t *testing.T) {
	s := parse(t, text)
	n, _ := Apply(s, all)
	m, _, _ := certificate.ParseModel("(define-fun P ((u Int) (v Int)) Bool (= u v))(define-fun a () Bool true)")
	if b, e := Model(s, all, m); e != api.OK || !reflect.DeepEqual(b, m) {
		t.Error(e)
	}
	if b, e := ModelForward(s, all, m); e != api.OK || !reflect.DeepEqual(b, m) {
		t.Error(e)
	}
	d, _, e := certificate.ParseTree(s, "(2 (1) (0 (0) (1 ())) (3 ()))")
	if e != api.OK || !certificate.Refutes(s, d) {
		t.Fatal(e)
	}
	f, e := TreeForward(s, all, d)
	if e != api.OK || !certificate.Refutes(n, f) {
		t.Fatal(e, certificate.FormatTree(n, f))
	}
	if b, e := Tree(s, all, f); e != api.OK || certificate.FormatTree(s, b) != certificate.FormatTree(s, d) {
		t.Error(e)
	}
}
