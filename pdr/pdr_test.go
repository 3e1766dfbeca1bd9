package pdr

import (
	"math/rand"
	"strconv"
	"strings"
	"testing"

	"chcsolver/api"
	"chcsolver/certificate"
	"chcsolver/fol"
	"chcsolver/reachfact"
	"chcsolver/smt"
	"chcsolver/system"
	"chcsolver/term"
	"chcsolver/tree"
)

func parse(t *testing.T, src string) api.System {
	t.Helper()
	s, at, e := system.Parse(src)
	if e != api.OK {
		t.Fatal(src, at, e)
	}
	return s
}

// checkModel checks that every clause is true under a model.
func checkModel(t *testing.T, s api.System, m api.Model) {
	t.Helper()
	if !certificate.Shaped(s, m) {
		t.Fatal("shape")
	}
	def := func(a api.App) api.Term {
		for _, d := range m.Defs {
			if d.Pred == a.Pred {
				return instance(d, a.Args)
			}
		}
		return tree.False()
	}
	for i, c := range s.Clauses {
		parts := []api.Term{c.Guard}
		for _, a := range c.Body {
			parts = append(parts, def(a))
		}
		if a, _, _ := smt.Valid(tree.Implies(fol.And(parts...), def(c.Head)), 1000); a != api.Unsat {
			t.Fatal("clause", i, certificate.FormatModel(m))
		}
	}
}

// checkState checks what an engine promises after a round.
func checkState(t *testing.T, s api.System, e *Engine) int {
	t.Helper()
	r := e.State()
	switch r.Answer {
	case api.Sat:
		checkModel(t, s, r.Model)
	case api.Unsat:
		if !certificate.Refutes(s, r.Tree) {
			t.Fatal("tree")
		}
	}
	for k, f := range e.Facts() {
		for _, kid := range f.Kids {
			if kid >= k {
				t.Fatal("facts")
			}
		}
	}
	return r.Answer
}

func rounds(t *testing.T, s api.System, most, budget int) (*Engine, int) {
	t.Helper()
	e, err := New(s)
	if err != api.OK {
		t.Fatal(err)
	}
	for range most {
		if e.Round(budget); checkState(t, s, e) != api.Unknown {
			break
		}
	}
	return e, e.State().Answer
}

const loop = "(declare-fun P (Int) Bool)(assert (P 0))(assert (forall ((x Int)) (=> (and (P x) (< x 10)) (P (+ x 1)))))"

func TestP382Answers(t *testing.T) {
	for _, c := range []struct {
		src  string
		want int
	}{
		{"", api.Sat}, {"(declare-fun P (Int) Bool)(assert (P 0))(assert (forall ((x Int)) (=> (P x) (<= x 0))))", api.Sat}, {"(declare-fun P (Int) Bool)(assert (P 0))(assert (forall ((x Int)) (=> (P x) (< x 0))))", api.Unsat}, {loop + "(assert (forall ((x Int)) (=> (P x) (<= x 20))))", api.Sat}, {loop + "(assert (forall ((x Int)) (not (and (P x) (= x 3)))))", api.Unsat}, {"(assert false)", api.Unsat},
		{"(declare-fun P (Int Int) Bool)(assert (forall ((n Int)) (P 0 n)))(assert (forall ((x Int) (n Int)) (=> (and (P x n) (< x n)) (P (+ x 1) n))))(assert (forall ((x Int) (n Int)) (=> (and (P x n) (not (< x n)) (< 0 n)) (= x n))))", api.Sat},
		{"(declare-fun F (Int Int) Bool)(assert (forall ((n Int)) (=> (<= n 1) (F n n))))(assert (forall ((n Int) (a Int) (b Int)) (=> (and (> n 1) (F (- n 1) a) (F (- n 2) b)) (F n (+ a b)))))(assert (forall ((n Int) (a Int)) (not (and (F n a) (= n 3) (> a 1)))))", api.Unsat},
		{"(declare-fun F (Int Bool) Bool)(assert (F 0 true))(assert (forall ((n Int) (b Bool)) (=> (F n b) (F (+ n 2) b))))(assert (forall ((n Int) (b Bool)) (=> (F n b) b)))", api.Sat},
		{"(declare-fun P (Real) Bool)(assert (forall ((x Real)) (=> (< x 1.0) (P x))))(assert (forall ((x Real) (y Real)) (=> (and (P x) (= y (* 0.5 x))) (P y))))(assert (forall ((x Real)) (=> (P x) (< x 2.0))))", api.Sat},
		{"(declare-fun P ((Array Int Int) Int) Bool)(assert (P (const 0) 0))(assert (forall ((a (Array Int Int)) (i Int)) (=> (and (P a i) (< i 2)) (P (store a i 7) (+ i 1)))))(assert (forall ((a (Array Int Int)) (i Int)) (=> (and (P a i) (= i 2)) (= (select a 0) 0))))", api.Unsat},
	} {
		if _, got := rounds(t, parse(t, c.src), 12, 60); got != c.want {
			t.Error(c.src, got)
		}
	}
	e, _ := rounds(t, parse(t, loop+"(assert (forall ((x Int)) (not (and (P x) (= x 3)))))"), 12, 60)
	r := e.State()
	if certificate.Height(r.Tree) != 5 || r.Height != 4 {
		t.Error(r.Height, certificate.Height(r.Tree))
	}
	r.Tree[0].Clause = 77
	if e.State().Tree[0].Clause == 77 || e.Round(60).Answer != api.Unsat {
		t.Error("the answer does not change")
	}
}

func TestP381P382Errors(t *testing.T) {
	if e, err := New(api.System{Preds: []api.Func{{}}}); e != nil || err != api.ErrInvalid {
		t.Error(err)
	}
	var none *Engine
	if none.Round(1).Answer != 0 || none.State().Height != 0 || none.Lemmas() != nil || none.Facts() != nil {
		t.Error("nil")
	}
	if _, err := none.Offer(nil, 1); err != api.ErrInvalid {
		t.Error(err)
	}
	e, _ := New(parse(t, loop))
	if e.Round(-1).Height != 0 || e.Round(api.MaxBudget+1).Height != 0 || e.State().Answer != api.Unknown {
		t.Error("budget")
	}
}

func TestP383Lemmas(t *testing.T) {
	s := parse(t, loop+"(assert (forall ((x Int)) (=> (P x) (<= x 200))))")
	e, _ := New(s)
	for range 3 {
		e.Round(60)
	}
	l := e.Lemmas()
	if len(l) == 0 {
		t.Fatal("no lemmas")
	}
	for _, x := range l {
		for n := range 11 {
			height := n + 1
			f := instance(x.Def, []api.Term{tree.Num(strconv.Itoa(n), 2)})
			if a, _, _ := smt.Valid(f, 10); (x.Level == -1 || height <= x.Level) && a != api.Unsat {
				t.Error(x.Level, n, term.Format(x.Def.Body))
			}
		}
	}
	for k := range e.Facts() {
		if _, err := reachfact.Tree(s, e.Facts(), k, nil); err != api.ErrForm && err != api.OK {
			t.Error(err)
		}
	}
}

func def(t *testing.T, src string) api.Def {
	t.Helper()
	m, _, e := certificate.ParseModel(src)
	if e != api.OK {
		t.Fatal(src, e)
	}
	return m.Defs[0]
}

func TestP384Offer(t *testing.T) {
	s := parse(t, loop+"(assert (forall ((x Int)) (=> (P x) (<= x 20))))")
	e, _ := New(s)
	l := []api.Def{def(t, "(define-fun P ((z Int)) Bool (<= z 5))"), def(t, "(define-fun P ((z Int)) Bool (<= z 10))"), def(t, "(define-fun P ((z Int)) Bool (<= 1 z))"), def(t, "(define-fun P ((u Int)) Bool (<= 0 u))"), def(t, "(define-fun P ((u Int)) Bool true)")}
	got, err := e.Offer(l, 20)
	if err != api.OK || len(got) != 5 || got[0] || !got[1] || got[2] || !got[3] || !got[4] {
		t.Error(got, err)
	}
	for range 4 {
		e.Round(20)
		kept := 0
		for _, x := range e.Lemmas() {
			if x.Level == -1 && tree.Equal(x.Def.Body, l[1].Body) && x.Def.Params[0].Name == "z" {
				kept++
			}
		}
		if kept == 0 {
			t.Error("the lemma is kept")
		}
	}
	if checkState(t, s, e) != api.Sat {
		t.Error("with the lemma, the answer is Sat")
	}
	for i, d := range []api.Def{{}, {Pred: "Q", Params: l[0].Params, Body: l[0].Body}, {Pred: "P", Body: tree.True()}, {Pred: "P", Params: []api.Var{{Name: "z", Sort: 3}}, Body: tree.True()}, {Pred: "P", Params: l[0].Params, Body: tree.Var("z", 2)}, {Pred: "P", Params: l[0].Params, Body: tree.Var("q", 1)}} {
		if _, err := e.Offer([]api.Def{l[1], d}, 20); err != api.ErrInvalid {
			t.Error(i, err)
		}
	}
	if _, err := e.Offer(nil, -1); err != api.ErrInvalid {
		t.Error(err)
	}
}

// TestP385P386Boolean compares the answers for random systems over booleans with the least fixed point.
func TestP385P386Boolean(t *testing.T) {
	r := rand.New(rand.NewSource(22))
	counts := map[int]int{}
	for range 60 {
		var b strings.Builder
		b.WriteString("(declare-fun A (Bool Bool) Bool)(declare-fun B (Bool) Bool)")
		pick := func(l ...string) string { return l[r.Intn(len(l))] }
		arg := func() string { return pick("x", "y", "z", "(not x)", "(and x y)", "true", "false") }
		atom := func() string {
			return pick("(A "+arg()+" "+arg()+")", "(B "+arg()+")")
		}
		for k := range 5 {
			body, head := atom()+" "+pick("true", "x", "(not y)", "(= x z)"), atom()
			if r.Intn(2) == 0 {
				body += " " + atom()
			}
			if k == 0 {
				body = pick("x", "(not x)", "(and x y)")
			}
			if k == 4 {
				head = "false"
			}
			b.WriteString("(assert (forall ((x Bool) (y Bool) (z Bool)) (=> (and " + body + ") " + head + ")))")
		}
		s := parse(t, b.String())
		e, got := rounds(t, s, 2+4+2, 0)
		if got == api.Unknown {
			t.Fatal(b.String(), e.State().Height)
		}
		counts[got]++
	}
	if counts[api.Sat] < 10 || counts[api.Unsat] < 10 {
		t.Error(counts)
	}
}
