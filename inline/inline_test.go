package inline

import (
	"strconv"
	"strings"
	"testing"

	"chcsolver/api"
	"chcsolver/certificate"
	"chcsolver/system"
)

func parse(t *testing.T, src string) api.System {
	t.Helper()
	s, at, e := system.Parse(src)
	if e != api.OK {
		t.Fatal(src, at, e)
	}
	return s
}

const decls = "(declare-fun P (Int) Bool)(declare-fun Q (Int) Bool)"

const chain = decls + "(assert (forall ((x Int)) (=> (= x 0) (Q x))))(assert (forall ((x Int) (y Int)) (=> (and (Q x) (= y (+ x 1))) (P y))))(assert (forall ((x Int)) (=> (= x (- 5)) (P x))))(assert (forall ((z Int) (w Int)) (=> (and (P z) (Q 0) (P w) (< (+ z w) 0)) false)))"

func TestP201Find(t *testing.T) {
	for _, c := range []struct {
		src, pred string
		e         api.Errno
	}{
		{chain, "P", api.OK}, {chain, "Q", api.OK}, {chain, "R", api.ErrName}, {chain, "", api.ErrName}, {decls + "(assert (forall ((x Int)) (=> (P x) (P x))))", "P", api.ErrRecursive}, {decls + "(assert (forall ((x Int) (y Int)) (=> (and (Q x) (< x y)) (P y))))", "P", api.ErrForm}, {decls + "(assert (forall ((x Int) (y Int)) (=> (and (Q x) (= y (+ x 1))) (P y))))", "P", api.OK},
		{decls + "(assert (forall ((x Int)) (P (* 2 x))))", "P", api.ErrForm}, {decls + "(assert (forall ((x Int)) (P (+ 3 (- x)))))", "P", api.OK}, {decls + "(assert (forall ((x Int) (u Int)) (=> (= u (div x 2)) (P x))))", "P", api.OK}, {decls + "(assert (forall ((x Int) (u Int)) (=> (= x (+ x 1)) (P u))))", "P", api.ErrForm}, {decls + "(assert (forall ((x Int) (u Int) (v Int)) (=> (and (= (+ v u) 3) (= (+ u x) 1)) (P x))))", "P", api.OK}, {decls + "(assert (forall ((y0 Int)) (P y0)))", "P", api.OK},
	} {
		x, e := Find(parse(t, c.src), c.pred)
		if e != c.e || e == api.OK && (x.Kind != api.TransInline || x.Pred != c.pred) {
			t.Error(c.src, c.pred, e)
		}
	}
	if _, e := Find(api.System{Preds: []api.Func{{}}}, "P"); e != api.ErrInvalid {
		t.Error(e)
	}
	var many strings.Builder
	for i := range 8 {
		many.WriteString("(assert (P " + strconv.Itoa(i) + "))")
	}
	if _, e := Find(parse(t, decls+many.String()+"(assert (not (and (P 0) (P 1) (P 2) (P 3) (P 4) (P 5) (P 6) (P 7))))"), "P"); e != api.ErrLimit {
		t.Error(e)
	}
}

func TestP202Apply(t *testing.T) {
	s := parse(t, decls+"(assert (forall ((x Int) (y Int)) (=> (and (Q x) (= y (+ x 1))) (P y))))(assert (forall ((z Int)) (=> (and (P z) (< z 0)) false)))")
	x, _ := Find(s, "P")
	a, e := Apply(s, x)
	if got := system.Format(a); e != api.OK || !strings.Contains(got, "(forall ((z Int) (x Int) (y Int)) (=> (and (Q x) (and (< z 0) (= z y) (= y (+ x 1)))) false))") || len(a.Preds) != 1 || len(a.Clauses) != 1 {
		t.Error(got, e)
	}
	s = parse(t, chain)
	x, _ = Find(s, "P")
	a, e = Apply(s, x)
	got := system.Format(a)
	if e != api.OK || len(a.Clauses) != 5 {
		t.Fatal(got, e)
	}
	at := 0
	for _, line := range []string{"(and (Q x) (Q 0) (Q x!1) (and (< (+ z w) 0) (= z y) (= y (+ x 1)) (= w y!1) (= y!1 (+ x!1 1))))", "(and (Q x) (Q 0) (and (< (+ z w) 0) (= z y) (= y (+ x 1)) (= w x!1) (= x!1 (- 5))))", "(and (Q 0) (Q x!1) (and (< (+ z w) 0) (= z x) (= x (- 5)) (= w y) (= y (+ x!1 1))))", "(and (Q 0) (and (< (+ z w) 0) (= z x) (= x (- 5)) (= w x!1) (= x!1 (- 5))))"} {
		k := strings.Index(got, line)
		if k < at {
			t.Error(line, got)
		}
		at = k
	}
	empty := parse(t, decls+"(assert (forall ((z Int)) (=> (P z) (Q z))))")
	if a, e := Apply(empty, api.Transform{Kind: api.TransInline, Pred: "P"}); e != api.OK || len(a.Clauses) != 0 {
		t.Error(e)
	}
	for _, x := range []api.Transform{{}, {Kind: api.TransInline, Pred: "P", Into: "Q"}, {Kind: api.TransUnfold, Pred: "P"}} {
		_, e := Apply(s, x)
		_, e2 := Model(s, x, api.Model{})
		_, e3 := Tree(s, x, nil)
		if e != api.ErrInvalid || e2 != e || e3 != e {
			t.Error(x, e)
		}
	}
	if _, e := Apply(s, api.Transform{Kind: api.TransInline, Pred: "Z"}); e != api.ErrName {
		t.Error(e)
	}
}

func TestP203Models(t *testing.T) {
	s := parse(t, chain)
	x, _ := Find(s, "P")
	m, _, _ := certificate.ParseModel("(define-fun Q ((y0 Int)) Bool (<= 0 y0))")
	b, e := Model(s, x, m)
	want := "(define-fun P ((y0 Int)) Bool (or (and (= y0 y0) (= y0 (+ (+ y0 (- 1)) 1)) (<= 0 (+ y0 (- 1)))) (and (= y0 y0) (= y0 (- 5)))))\n(define-fun Q ((y0 Int)) Bool (<= 0 y0))\n"
	if e != api.OK || certificate.FormatModel(b) != want {
		t.Error(certificate.FormatModel(b), e)
	}
	if f, e := ModelForward(s, x, b); e != api.OK || certificate.FormatModel(f) != certificate.FormatModel(m) {
		t.Error(e)
	}
	if _, e := Model(s, x, b); e != api.ErrInvalid {
		t.Error(e)
	}
	if _, e := ModelForward(s, x, m); e != api.ErrInvalid {
		t.Error(e)
	}
	s = parse(t, "(declare-fun P (Int Int) Bool)(declare-fun Q (Int) Bool)(assert (forall ((y0 Int) (y1 Int)) (=> (Q y0) (P y1 y0))))(assert (forall ((z Int)) (not (P z z))))")
	x, _ = Find(s, "P")
	m, _, _ = certificate.ParseModel("(define-fun Q ((q Int)) Bool (= q 1))")
	if b, e := Model(s, x, m); e != api.OK || certificate.FormatModel(b) != "(define-fun P ((y0 Int) (y1 Int)) Bool (or (and (= y0 y0) (= y1 y1) true (= y1 1))))\n(define-fun Q ((q Int)) Bool (= q 1))\n" {
		t.Error(certificate.FormatModel(b), e)
	}
}

func TestP204Trees(t *testing.T) {
	s := parse(t, chain)
	x, _ := Find(s, "P")
	a, _ := Apply(s, x)
	src := "(3 (1 (- 5)) (1 (0 1) (0 (0))) (0 (0)) (2 ((- 5))))"
	d, _, e := certificate.ParseTree(s, src)
	if e != api.OK || !certificate.Refutes(s, d) {
		t.Fatal(e)
	}
	f, e := TreeForward(s, x, d)
	if e != api.OK || !certificate.Refutes(a, f) || certificate.FormatTree(a, f) != "(2 (1 (- 5) 0 1 (- 5)) (0 (0)) (0 (0)))" {
		t.Error(certificate.FormatTree(a, f), e)
	}
	if b, e := Tree(s, x, f); e != api.OK || certificate.FormatTree(s, b) != src {
		t.Error(certificate.FormatTree(s, b), e)
	}
	if _, e := TreeForward(s, x, d[1:3]); e != api.ErrForm {
		t.Error(e)
	}
	if _, e := TreeForward(s, x, d[:2]); e != api.ErrProof {
		t.Error(e)
	}
	if _, e := Tree(s, x, nil); e != api.ErrProof {
		t.Error(e)
	}
}
