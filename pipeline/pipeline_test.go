package pipeline

import (
	"slices"
	"strconv"
	"testing"

	"chcsolver/api"
	"chcsolver/blockenc"
	"chcsolver/certificate"
	"chcsolver/lang"
	"chcsolver/stepenc"
	"chcsolver/sumenc"
	"chcsolver/system"
)

func parse(t *testing.T, src string) api.System {
	t.Helper()
	s, at, e := system.Parse(src)
	if e != api.OK {
		t.Fatal(src, at, e)
	}
	return s
}

const text = "(declare-fun P (Int Int) Bool)(declare-fun Q (Int Int) Bool)(declare-fun R () Bool)(assert (forall ((x Int)) (=> (= x 0) (P 7 x))))(assert (forall ((c Int) (x Int)) (=> (P c x) (Q c (+ x 1)))))(assert (forall ((c Int) (x Int)) (=> (Q c x) (P c (+ x 1)))))(assert (forall ((c Int) (x Int)) (=> (and (Q c x) (= x 3)) false)))(assert (=> R R))"

var bad = api.System{Preds: []api.Func{{}}}

func TestP231Run(t *testing.T) {
	s := parse(t, text)
	a, l, e := Run(s, nil)
	if e != api.OK || len(l) != 0 || system.Format(a) != system.Format(s) {
		t.Error(e)
	}
	a, l, e = Run(s, []api.Choice{{Kind: api.TransSlice, Pred: "ignored"}, {Kind: api.TransUnfold, Clause: 3}, {Kind: api.TransArgs, Atom: 9}, {Kind: api.TransNormal}})
	if e != api.OK || len(l) != 4 || l[1].Kind != api.TransUnfold || len(a.Preds) != 2 {
		t.Error(l, e)
	}
	for i, c := range []struct {
		s api.System
		l []api.Choice
		e api.Errno
	}{{bad, []api.Choice{{Kind: 9}}, api.ErrInvalid}, {s, slices.Repeat([]api.Choice{{Kind: 9}}, 41), api.ErrLimit}, {s, []api.Choice{{Kind: api.TransInline, Pred: "Z"}, {Kind: 9}}, api.ErrName}, {s, []api.Choice{{Kind: api.TransInline, Pred: "Q"}}, api.ErrRecursive}, {s, []api.Choice{{Kind: api.TransMerge}}, api.ErrForm}, {s, []api.Choice{{}}, api.ErrInvalid}, {s, slices.Repeat([]api.Choice{{Kind: api.TransNormal}}, 40), api.OK}} {
		if _, _, e := Run(c.s, c.l); e != c.e {
			t.Error(i, e)
		}
	}
}

func TestP232Standard(t *testing.T) {
	s := parse(t, text)
	a, l, e := Standard(s)
	if e != api.OK || len(l) != 2 || l[0].Kind != api.TransSlice || l[1].Kind != api.TransArgs || len(a.Preds) != 2 {
		t.Error(system.Format(a), l, e)
	}
	if again, e := Apply(s, l); e != api.OK || system.Format(again) != system.Format(a) {
		t.Error(e)
	}
	chain := "(declare-fun A () Bool)(declare-fun P0 (Int) Bool)(assert (forall ((x Int)) (=> (< x 3) (P0 x))))"
	for i := range 45 {
		chain += "(declare-fun P" + strconv.Itoa(i+1) + " (Int) Bool)(assert (forall ((x Int)) (=> (P" + strconv.Itoa(i) + " x) (P" + strconv.Itoa(i+1) + " (+ x 1)))))"
	}
	chain += "(assert (forall ((x Int)) (=> (P45 x) (< x 100))))"
	if _, l, e := Standard(parse(t, chain)); e != api.OK || len(l) != api.MaxSteps || l[0].Kind != api.TransSlice || l[1].Kind != api.TransInline || l[1].Pred != "P0" {
		t.Error(len(l), e)
	}
	twins := "(declare-fun P (Int) Bool)(declare-fun Q (Int) Bool)(assert (forall ((x Int)) (=> (< x 3) (P x))))(assert (forall ((x Int)) (=> (P (+ x 2)) (P x))))(assert (forall ((x Int)) (=> (< x 3) (Q x))))(assert (forall ((x Int)) (=> (P (+ x 2)) (Q x))))(assert (forall ((x Int)) (=> (and (P x) (Q x)) (< x 9))))"
	if a, l, e := Standard(parse(t, twins)); e != api.OK || len(l) != 1 || l[0].Kind != api.TransInline || len(a.Preds) != 1 {
		t.Error(l, e)
	}
	if _, _, e := Standard(bad); e != api.ErrInvalid {
		t.Error(e)
	}
}

func TestP233Errors(t *testing.T) {
	s := parse(t, text)
	many := make([]api.Transform, 41)
	for i, c := range []struct {
		s           api.System
		l           []api.Transform
		e, e2, tree api.Errno
	}{{bad, many, api.ErrInvalid, api.ErrInvalid, api.ErrInvalid}, {s, many, api.ErrLimit, api.ErrLimit, api.ErrLimit}, {s, many[:1], api.ErrInvalid, api.ErrInvalid, api.ErrInvalid}, {s, []api.Transform{{Kind: api.TransInline, Pred: "Z"}}, api.ErrName, api.ErrName, api.ErrName}, {s, nil, api.OK, api.ErrInvalid, api.ErrProof}} {
		_, e := Apply(c.s, c.l)
		_, e2 := Model(c.s, c.l, api.Model{})
		_, e3 := ModelForward(c.s, c.l, api.Model{})
		_, e4 := Tree(c.s, c.l, nil)
		_, e5 := TreeForward(c.s, c.l, nil)
		if e != c.e || e2 != c.e2 || e3 != c.e2 || e4 != c.tree || e5 != c.tree {
			t.Error(i, e, e2, e3, e4, e5)
		}
	}
}

// TestP233Maps maps the refutations of runs and models through standard transformations, forward and back.
func TestP233Maps(t *testing.T) {
	p, _, e := lang.Parse("proc main(n: int) { var x: int; var y: int; while x < n { call y := f(x); x := y; } assert x < 3; } proc f(a: int) returns (b: int) { b := a + 1; if b == 7 { assert false; } }")
	if e != api.OK {
		t.Fatal(e)
	}
	args := []api.Value{{Sort: api.SortInt, Num: "4"}}
	step, _, _ := stepenc.Encode(p)
	block, _, _ := blockenc.Encode(p)
	sum, _, _ := sumenc.Encode(p)
	d1, e1 := stepenc.Tree(p, args, nil, 1000)
	d2, e2 := blockenc.Tree(p, args, nil, 1000)
	d3, e3 := sumenc.Tree(p, args, nil, 1000)
	if e1 != api.OK || e2 != api.OK || e3 != api.OK {
		t.Fatal(e1, e2, e3)
	}
	for i, s := range []api.System{step, block, sum} {
		d := []api.Tree{d1, d2, d3}[i]
		last, l, e := Standard(s)
		if e != api.OK || len(l) == 0 {
			t.Fatal(i, e)
		}
		f, e := TreeForward(s, l, d)
		if e != api.OK || !certificate.Refutes(last, f) {
			t.Fatal(i, e)
		}
		b, e := Tree(s, l, f)
		if e != api.OK || !certificate.Refutes(s, b) || len(b) != len(d) {
			t.Error(i, e)
		}
	}
	s := parse(t, text)
	_, l, _ := Standard(s)
	m, _, _ := certificate.ParseModel("(define-fun P ((x Int)) Bool (<= 0 x))(define-fun Q ((x Int)) Bool (<= 1 x))")
	b, e := Model(s, l, m)
	if e != api.OK || !certificate.Shaped(s, b) {
		t.Fatal(e)
	}
	if _, e := ModelForward(s, l, b); e != api.ErrForm {
		t.Error("an argument is free", e)
	}
	if f, e := ModelForward(s, l[:1], b); e != api.OK || len(f.Defs) != 2 {
		t.Error(e)
	}
}
