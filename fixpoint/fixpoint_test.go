package fixpoint

import (
	"math/rand"
	"slices"
	"strconv"
	"strings"
	"testing"

	"chcsolver/api"
	"chcsolver/certificate"
	"chcsolver/polyhedra"
	"chcsolver/system"
)

func parse(t *testing.T, src string) api.System {
	t.Helper()
	s, at, e := system.Parse(src)
	if e != api.OK {
		t.Fatal(src, at, e)
	}
	return s
}

func text(p api.Poly) string {
	var parts []string
	for _, r := range p.Rows {
		parts = append(parts, strings.Join(r.C, " ")+" "+[]string{"", "<=", "<", "="}[r.Rel]+" "+r.K)
	}
	return strings.Join(parts, "; ")
}

const loop = "(declare-fun P (Int) Bool)(assert (P 0))(assert (forall ((x Int)) (=> (and (P x) (< x 10)) (P (+ x 1)))))"

var bad = api.System{Preds: []api.Func{{}}}

func TestP421Dims(t *testing.T) {
	s := parse(t, "(declare-fun P (Int Real Int Bool) Bool)(declare-fun Q (Bool Real Real) Bool)(declare-fun R (Bool) Bool)(declare-fun W ("+strings.Repeat("Int ", 9)+") Bool)")
	for pred, want := range map[string][]int{"P": {0, 2}, "Q": {1, 2}, "R": nil, "W": {0, 1, 2, 3, 4, 5}} {
		if d, e := Dims(s, pred); e != api.OK || !slices.Equal(d, want) {
			t.Error(pred, d, e)
		}
	}
	l, e := Start(s)
	if e != api.OK || len(l) != 4 || l[0].N != 2 || l[2].N != 1 || l[3].N != 6 || !polyhedra.Empty(l[1]) {
		t.Error(l, e)
	}
	if _, e := Dims(s, "Z"); e != api.ErrInvalid {
		t.Error(e)
	}
	if _, e := Dims(bad, ""); e != api.ErrInvalid {
		t.Error(e)
	}
	if _, e := Start(bad); e != api.ErrInvalid {
		t.Error(e)
	}
}

func of(t *testing.T, n int, l ...string) api.Poly {
	t.Helper()
	var rows []api.Row
	for _, s := range l {
		f := strings.Fields(s)
		rows = append(rows, api.Row{C: f[:n], Rel: slices.Index([]string{"", "<=", "<", "="}, f[n]), K: f[n+1]})
	}
	p, e := polyhedra.Of(n, rows)
	if e != api.OK {
		t.Fatal(e)
	}
	return p
}

func TestP422Image(t *testing.T) {
	for i, c := range []struct{ src, body, want string }{
		{"(forall ((x Int)) (=> (and (P x 1) (< x 10)) (P (+ x 1) (* 2 x))))", "1 0 <= 7; -1 0 <= 0; 0 1 = 1", "2 -1 = 2; 0 -1 <= 0; 0 1 <= 14"}, {"(forall ((x Int) (y Int)) (=> (and (P x y) (< x 4) (<= y x)) (P x y)))", "-1 0 <= 0; 0 -1 <= 0", "-1 1 <= 0; 0 -1 <= 0; 1 0 <= 3"}, {"(forall ((x Int)) (=> (and (P x x) (not (= x 3))) (P 5 (div x 2))))", "1 0 <= 3", "1 0 = 5"}, {"(forall ((x Int) (y Int)) (=> (or (= x 1) (and (= x 2) (< x 2)) (= x 4)) (P x 0)))", "", "0 1 = 0; -1 0 <= -1; 1 0 <= 4"}, {"(forall ((x Int)) (=> (and (P x (mod x 3)) (= (mod x 2) 1)) (P x 0)))", "1 1 <= 3; 0 -1 <= 0; -1 0 <= 5", "0 1 = 0; -1 0 <= 5; 1 0 <= 3"},
		{"(forall ((x Int) (r Real)) (=> (and (P x x) (< r 0.0) (< 0.0 r)) (P x x)))", "1 0 <= 3", "0 0 <= -1"}, {"(forall ((x Int) (y Int)) (=> (and (P x y) (P y x)) (P x y)))", "1 -1 <= 0", "1 -1 = 0"}, {"(forall ((x Int)) (=> (P (div x 2) (mod x 2)) (P x x)))", "0 0 <= -1", "0 0 <= -1"},
	} {
		s := parse(t, "(declare-fun P (Int Int) Bool)(assert "+c.src+")(assert (forall ((x Int)) (not (P x x))))")
		var rows []string
		if c.body != "" {
			rows = strings.Split(c.body, "; ")
		}
		p, e := Image(s, 0, []api.Poly{of(t, 2, rows...)})
		if want := text(of(t, 2, strings.Split(c.want, "; ")...)); e != api.OK || text(p) != want || !polyhedra.Good(p) {
			t.Error(i, text(p), want, e)
		}
		if _, e := Image(s, 1, []api.Poly{of(t, 2)}); e != api.ErrForm {
			t.Error(e)
		}
	}
	s := parse(t, loop)
	for i, c := range []struct {
		s      api.System
		clause int
		l      []api.Poly
	}{{bad, 0, nil}, {s, 2, []api.Poly{of(t, 1)}}, {s, -1, []api.Poly{of(t, 1)}}, {s, 0, nil}, {s, 0, []api.Poly{of(t, 2)}}, {s, 0, []api.Poly{{N: 1, Rows: []api.Row{{C: []string{"2"}, Rel: 1, K: "1"}}}}}} {
		if _, e := Image(c.s, c.clause, c.l); e != api.ErrInvalid {
			t.Error(i, e)
		}
	}
	var vars strings.Builder
	for i := range 41 {
		vars.WriteString("(v" + strconv.Itoa(i) + " Int)")
	}
	wide := parse(t, "(declare-fun P (Int) Bool)(assert (forall ("+vars.String()+") (P v0)))")
	if _, e := Image(wide, 0, []api.Poly{of(t, 1)}); e != api.ErrLimit {
		t.Error(e)
	}
}

func TestP423Step(t *testing.T) {
	s := parse(t, loop)
	l, _ := Start(s)
	o := api.Options{Delay: 1, Thresholds: []string{"7", "30"}}
	for i, want := range []string{"1 = 0", "-1 <= 0; 1 <= 7", "-1 <= 0; 1 <= 30", "-1 <= 0; 1 <= 30"} {
		var e api.Errno
		if l, e = Step(s, l, o, i); e != api.OK || text(l[0]) != want {
			t.Error(i, text(l[0]), e)
		}
	}
	for i, o := range []api.Options{{Delay: -1}, {Delay: 21}, {Narrow: 21}, {Thresholds: []string{"01"}}, {Thresholds: slices.Repeat([]string{"1"}, 9)}} {
		_, e := Step(s, l, o, 0)
		if _, e2 := Run(s, o); e != api.ErrInvalid || e2 != e {
			t.Error(i, e, e2)
		}
	}
	if _, e := Step(s, nil, o, 0); e != api.ErrInvalid {
		t.Error(e)
	}
	if _, e := Run(bad, o); e != api.ErrInvalid {
		t.Error(e)
	}
}

func TestP424Run(t *testing.T) {
	f, e := Run(parse(t, loop+"(assert (forall ((x Int)) (not (and (P x) (> x 20)))))"), api.Options{Delay: 1, Narrow: 1})
	if e != api.OK || f.Answer != api.Sat || text(f.Polys[0]) != "-1 <= 0; 1 <= 10" || f.Rounds < 2 {
		t.Error(text(f.Polys[0]), f, e)
	}
	if certificate.FormatModel(f.Model) != "(define-fun P ((p0 Int)) Bool (and (<= (* (- 1) p0) 0) (<= (+ p0 (- 10)) 0)))\n" {
		t.Error(certificate.FormatModel(f.Model))
	}
	f, e = Run(parse(t, loop+"(assert (forall ((x Int)) (not (and (P x) (= x 3)))))"), api.Options{Delay: 1, Narrow: 1})
	if e != api.OK || f.Answer != api.Unknown {
		t.Error(f.Answer, e)
	}
	f, e = Run(parse(t, "(declare-fun A () Bool)(declare-fun B (Bool) Bool)(assert (=> A A))(assert (B true))(assert (not A))"), api.Options{})
	if e != api.OK || f.Answer != api.Sat || certificate.FormatModel(f.Model) != "(define-fun A () Bool (and false))\n(define-fun B ((p0 Bool)) Bool (and))\n" {
		t.Error(certificate.FormatModel(f.Model), e)
	}
	if f, e := Run(parse(t, ""), api.Options{}); e != api.OK || f.Answer != api.Sat || f.Rounds != 1 {
		t.Error(f, e)
	}
}

// TestP425Random checks that facts lie in the polyhedra, and models of safe systems at small values.
func TestP425Random(t *testing.T) {
	r := rand.New(rand.NewSource(25))
	safe := 0
	for range 60 {
		n := func() string {
			k := r.Intn(5) - 1
			if k < 0 {
				return "(- 1)"
			}
			return strconv.Itoa(k)
		}
		pick := func(l ...string) string { return l[r.Intn(len(l))] }
		src := "(declare-fun P (Int Int) Bool)(assert (P " + n() + " " + n() + "))(assert (forall ((x Int) (y Int)) (=> (and (P x y) (< " + pick("x", "y", "(- x y)") + " " + n() + ")) (P (+ x " + n() + ") (+ " + pick("x", "y") + " " + n() + ")))))(assert (forall ((x Int) (y Int)) (=> (and (P x y) " + pick("(< x 2)", "(or (< x y) (< 3 x))", "true") + ") (P " + pick("y x", "x 0", "(- x) y") + "))))(assert (forall ((x Int) (y Int)) (=> (P x y) (< " + pick("x", "y", "(+ x y)") + " " + pick("5", "9", "40") + "))))"
		s := parse(t, src)
		f, e := Run(s, api.Options{Delay: r.Intn(3), Narrow: r.Intn(3), Thresholds: []string{"4"}})
		if e != api.OK {
			t.Fatal(src, e)
		}
		num := func(k int) api.Value { return api.Value{Sort: 2, Num: strconv.Itoa(k)} }
		for x := -7; x < 12; x++ {
			for y := -7; y < 12; y++ {
				for i, c := range s.Clauses {
					if f.Answer != api.Sat && c.Head.Pred == "" {
						continue
					}
					if is, e := certificate.ClauseAt(s, f.Model, i, []api.Value{num(x), num(y)}[:len(c.Vars)]); !is || e != api.OK {
						t.Fatal(src, i, x, y, certificate.FormatModel(f.Model))
					}
				}
			}
		}
		if f.Answer == api.Sat {
			safe++
		}
	}
	if safe < 5 {
		t.Error(safe)
	}
}
