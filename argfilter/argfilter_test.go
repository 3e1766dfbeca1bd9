package argfilter

import (
	"strings"
	"testing"

	"chcsolver/api"
	"chcsolver/certificate"
	"chcsolver/system"
)

func parse(t *testing.T, src string) api.System {
	t.Helper()
	s, at, e := system.Parse(src)
	if e != api.OK {
		t.Fatal(src, at, e)
	}
	return s
}

const seven = "(declare-fun P (Int Int) Bool)(assert (forall ((x Int)) (=> (= x 0) (P 7 x))))(assert (forall ((c Int) (x Int)) (=> (P c x) (P c (+ x 1)))))(assert (forall ((c Int) (x Int)) (=> (and (P c x) (< x 0)) false)))"
const free = "(declare-fun P (Int Int Bool) Bool)(declare-fun Q (Int) Bool)(assert (forall ((x Int) (y Int)) (P x y true)))(assert (forall ((x Int) (y Int) (b Bool)) (=> (P x y b) (P (+ x 1) (+ y x) (not b)))))(assert (forall ((x Int) (y Int) (b Bool)) (=> (and (P x y b) (Q y) (= y 3)) false)))(assert (Q 3))"

func num(s string) api.Value { return api.Value{Sort: api.SortInt, Num: s} }

func TestP191Find(t *testing.T) {
	x, e := Find(parse(t, seven))
	if e != api.OK || x.Kind != api.TransArgs || len(x.Drops) != 1 || !x.Drops[0].Fixed || x.Drops[0].Arg != 0 || x.Drops[0].Value.Num != "7" {
		t.Error(x, e)
	}
	x, e = Find(parse(t, free))
	if e != api.OK || len(x.Drops) != 2 || x.Drops[0].Fixed || x.Drops[0].Arg != 2 || x.Drops[1].Pred != "Q" || !x.Drops[1].Fixed {
		t.Error(x, e)
	}
	x, e = Find(parse(t, "(declare-fun P (Int) Bool)(declare-fun Q (Int) Bool)(assert (P 1))(assert (Q 2))(assert (forall ((x Int)) (=> (P x) (Q x))))(assert (forall ((x Int)) (=> (and (Q x) (< x x)) false)))"))
	if e != api.OK || len(x.Drops) != 1 || x.Drops[0].Pred != "P" || !x.Drops[0].Fixed {
		t.Error(x, e)
	}
	if _, e := Find(api.System{Preds: []api.Func{{}}}); e != api.ErrInvalid {
		t.Error(e)
	}
}

func TestP192Apply(t *testing.T) {
	s := parse(t, seven)
	x, _ := Find(s)
	a, e := Apply(s, x)
	got := system.Format(a)
	if e != api.OK || !strings.Contains(got, "(=> (and (P x) (and (< x 0) (= c 7))) false)") || !strings.Contains(got, "(forall ((c Int) (x Int)) (=> (and (P x) (and true (= c 7))) (P (+ x 1))))") || !strings.Contains(got, "(=> (and (= x 0)) (P x))") {
		t.Error(got, e)
	}
	drop := func(l ...api.Drop) api.Transform { return api.Transform{Kind: api.TransArgs, Drops: l} }
	c7 := api.Drop{Pred: "P", Fixed: true, Value: num("7")}
	for i, c := range []struct {
		x api.Transform
		e api.Errno
	}{
		{drop(), api.OK}, {drop(c7), api.OK}, {drop(c7, c7), api.ErrForm}, {drop(api.Drop{Pred: "P", Fixed: true, Value: num("8")}), api.ErrForm}, {drop(api.Drop{Pred: "Z"}), api.ErrForm}, {drop(api.Drop{Pred: "P", Arg: 2}), api.ErrForm}, {drop(api.Drop{Pred: "P", Arg: -1}), api.ErrForm}, {drop(api.Drop{Pred: "P", Value: num("7")}), api.ErrForm}, {drop(api.Drop{Pred: "P", Fixed: true, Value: api.Value{Sort: 1}}), api.ErrForm}, {drop(api.Drop{Pred: "P", Fixed: true}), api.ErrForm},
		{drop(api.Drop{Pred: "P", Arg: 1}), api.ErrForm}, {drop(api.Drop{Pred: "P"}), api.OK}, {api.Transform{Kind: api.TransArgs, Into: "P"}, api.ErrInvalid}, {api.Transform{}, api.ErrInvalid}, {drop(api.Drop{Pred: "P", Arg: 1}, c7), api.ErrForm},
	} {
		_, e := Apply(s, c.x)
		if e != c.e {
			t.Error(i, e)
		}
		_, e2 := TreeForward(s, c.x, nil)
		if e != api.OK && e2 != e {
			t.Error(i, e2)
		}
	}
	s = parse(t, "(declare-fun P ((Array Int Int)) Bool)(assert (P (const 0)))(assert (forall ((a (Array Int Int))) (not (P a))))")
	x, _ = Find(s)
	if a, e := Apply(s, x); e != api.OK || len(a.Preds[0].Args) != 0 {
		t.Error(e)
	}
}

func TestP193Models(t *testing.T) {
	s := parse(t, seven)
	x, _ := Find(s)
	m, _, _ := certificate.ParseModel("(define-fun P ((d Int)) Bool (<= 0 d))")
	b, e := Model(s, x, m)
	if e != api.OK || certificate.FormatModel(b) != "(define-fun P ((d!1 Int) (d Int)) Bool (and (<= 0 d) (= d!1 7)))\n" {
		t.Error(certificate.FormatModel(b), e)
	}
	if f, e := ModelForward(s, x, b); e != api.OK || certificate.FormatModel(f) != "(define-fun P ((d Int)) Bool (and (<= 0 d) (= 7 7)))\n" {
		t.Error(certificate.FormatModel(f), e)
	}
	if _, e := ModelForward(s, x, m); e != api.ErrInvalid {
		t.Error(e)
	}
	s = parse(t, free)
	x, _ = Find(s)
	m, _, _ = certificate.ParseModel("(define-fun P ((x Int) (y Int)) Bool false)(define-fun Q () Bool true)")
	b, e = Model(s, x, m)
	if e != api.OK || certificate.FormatModel(b) != "(define-fun P ((x Int) (y Int) (d Bool)) Bool false)\n(define-fun Q ((d Int)) Bool (and true (= d 3)))\n" {
		t.Error(certificate.FormatModel(b), e)
	}
	if _, e := ModelForward(s, x, b); e != api.ErrForm {
		t.Error(e)
	}
	if _, e := ModelForward(s, x, m); e != api.ErrInvalid {
		t.Error(e)
	}
}

func TestP194Trees(t *testing.T) {
	s := parse(t, free)
	x, _ := Find(s)
	a, _ := Apply(s, x)
	d, _, e := certificate.ParseTree(s, "(2 (2 3 false) (1 (1 2 true) (0 (1 2))) (3 ()))")
	if e != api.OK || !certificate.Refutes(s, d) {
		t.Fatal(e)
	}
	f, e := TreeForward(s, x, d)
	if e != api.OK || !certificate.Refutes(a, f) {
		t.Error(e)
	}
	f[0].Values[2].Bool, f[1].Values[2].Bool = true, false
	b, e := Tree(s, x, f)
	if e != api.OK || certificate.FormatTree(s, b) != certificate.FormatTree(s, d) {
		t.Error(certificate.FormatTree(s, b), e)
	}
	if _, e := Tree(s, x, nil); e != api.ErrProof {
		t.Error(e)
	}
	if _, e := TreeForward(s, x, d[:1]); e != api.ErrProof {
		t.Error(e)
	}
}
