package checker

import (
	"math/rand"
	"slices"
	"strconv"
	"strings"
	"testing"

	"chcsolver/api"
	"chcsolver/certificate"
	"chcsolver/exact"
	"chcsolver/smt"
	"chcsolver/system"
	"chcsolver/term"
	"chcsolver/tree"
	"chcsolver/value"
)

var vars = []api.Var{{Name: "x", Sort: 2}, {Name: "y", Sort: 2}, {Name: "z", Sort: 2}, {Name: "p", Sort: 1}, {Name: "q", Sort: 1}, {Name: "r", Sort: 3}, {Name: "s", Sort: 3}, {Name: "a", Sort: 4}, {Name: "b", Sort: 4}}

func tm(s string) api.Term {
	t, _, e := term.Parse(s, vars, nil)
	if e != api.OK {
		panic(s)
	}
	return t
}

func valid(t *testing.T, f api.Term, budget int) int {
	t.Helper()
	a, env, e := Valid(f, budget)
	if e != api.OK {
		t.Fatal(term.Format(f), e)
	}
	ascending := slices.IsSortedFunc(env, func(a, b api.Binding) int { return strings.Compare(a.Name, b.Name) })
	if a == api.Sat && (value.Holds(f, env, nil) || len(env) != len(tree.Vars(f)) || !ascending) {
		t.Fatal("counterexample", term.Format(f), env)
	}
	if a != api.Sat && len(env) > 0 {
		t.Fatal("values")
	}
	if a == api.Sat {
		if _, e := value.Eval(f, env, nil); e != api.OK {
			t.Fatal("values", e)
		}
	}
	return a
}

func TestP441Valid(t *testing.T) {
	for s, want := range map[string]int{
		"(or (< x y) (<= y x))": api.Unsat, "(< x y)": api.Sat, "true": api.Unsat, "false": api.Sat, "(or p (not p))": api.Unsat, "(=> (and (< x y) (< y z)) (< (+ x 1) z))": api.Unsat, "(=> (and (< r s)) (< (+ r 1.0) s))": api.Sat, "(not (= (* 2 x) (+ 1 (* 2 y))))": api.Unsat, "(=> (= (mod x 4) 1) (= (mod x 2) 1))": api.Unsat, "(=> (= (mod x 2) 1) (= (mod x 4) 1))": api.Sat, "(= (select (store a x 1) x) 1)": api.Unsat, "(=> (= x y) (= (select a x) (select a y)))": api.Unsat, "(= (select a x) (select a y))": api.Sat,
		"(=> (not (= x y)) (= (select (store a x 1) y) (select a y)))": api.Unsat, "(= (select (const x) y) x)": api.Unsat, "(= (select (ite p a b) x) (ite p (select a x) (select b x)))": api.Unsat, "(= (select a (select a x)) 0)": api.Sat, "(<= (div x 2) (div (+ x 1) 2))": api.Unsat, "(not (and (< r s) (< s r)))": api.Unsat, "(or (= x 0) (= x 1) (< x 0) (< 1 x))": api.Unsat, "(= (ite p x y) (ite (not p) y x))": api.Unsat, "(= p (not (not p)))": api.Unsat, "(not (and (= (+ (* 6 x) (* 10 y)) 13) (< x z)))": api.Unsat, "(ite p q (or p (not p)))": api.Sat,
	} {
		if got := valid(t, tm(s), 30); got != want {
			t.Error(s, got)
		}
	}
	for i, c := range []struct {
		f      api.Term
		budget int
		e      api.Errno
	}{{nil, 1, api.ErrInvalid}, {tm("x"), 1, api.ErrInvalid}, {tm("p"), -1, api.ErrInvalid}, {tm("p"), api.MaxBudget + 1, api.ErrInvalid}, {tm("(= a b)"), 1, api.ErrForm}, {tm("(or p (= (store a x 1) a))"), 1, api.ErrForm}, {tree.Node(api.Node{Op: api.OpApply, Sort: 1, Name: "f"}, tm("p")), 1, api.ErrInvalid}} {
		if _, _, e := Valid(c.f, c.budget); e != c.e {
			t.Error(i, e)
		}
	}
	array := tm("a")
	for range 12 {
		array = tree.Node(api.Node{Op: api.OpIte}, tm("p"), tree.Node(api.Node{Op: api.OpStore}, array, tm("y"), tm("z")), array)
	}
	if _, _, e := Valid(tree.Eq(tree.Node(api.Node{Op: api.OpSelect}, array, tm("x")), tm("1")), 1); e != api.ErrInvalid && e != api.ErrLimit {
		t.Error(e)
	}
}

func TestP441Rules(t *testing.T) {
	endless := tree.Not(tm("(and (= (+ (* 2 x) (* (- 4) y) (* 3 z)) 1) (<= 0 (* 2 z)) (<= (* 2 z) 1))"))
	last := api.Unknown
	for b := range 20 {
		got := valid(t, endless, b)
		if last != api.Unknown && got != last {
			t.Error("B1", b)
		}
		last = got
	}
	box := tree.Not(tm("(and (<= 0 x) (<= x 3) (<= 0 y) (<= y 4) (<= (+ (* 6 x) (* 10 y)) 13) (<= 13 (+ (* 6 x) (* 10 y))) (or p (< x y)))"))
	if valid(t, box, 20) != api.Unsat {
		t.Error("B2")
	}
	if valid(t, tm("(not (and (< r s) (or p (< s r)) (not p)))"), 0) != api.Unsat {
		t.Error("B3")
	}
}

type generator struct{ *rand.Rand }

func (g generator) integer(d int) string {
	if d == 0 {
		return []string{"x", "y", strconv.Itoa(g.Intn(3))}[g.Intn(3)]
	}
	a := g.integer(d - 1)
	return []string{"(+ " + a + " " + g.integer(0) + ")", "(* 2 " + a + ")", "(- " + a + ")", "(mod " + a + " 2)", "(ite " + g.formula(d-1) + " " + a + " y)", "(select " + g.array(d-1) + " " + a + ")"}[g.Intn(6)]
}

func (g generator) array(d int) string {
	if d == 0 {
		return []string{"a", "b"}[g.Intn(2)]
	}
	return []string{"(store " + g.array(d-1) + " " + g.integer(0) + " " + g.integer(0) + ")", "(const " + g.integer(0) + ")", "(ite p a b)"}[g.Intn(3)]
}

func (g generator) formula(d int) string {
	i := g.integer(g.Intn(d + 1))
	atom := []string{"p", "q", "(= " + i + " " + g.integer(0) + ")", "(< " + i + " " + g.integer(0) + ")", "(<= r (* 2.0 s))", "(= r s)", "(< s 1.0)"}[g.Intn(7)]
	if d == 0 {
		return atom
	}
	f, h := g.formula(d-1), g.formula(d-1)
	return []string{"(and " + f + " " + h + ")", "(or " + f + " " + h + ")", "(not " + f + ")", "(= " + f + " " + h + ")", "(=> " + f + " " + h + ")", atom}[g.Intn(6)]
}

// TestP441Agreement compares the checker with the ground solver, which shares none of its decisions.
func TestP441Agreement(t *testing.T) {
	g := generator{rand.New(rand.NewSource(27))}
	counts := map[int]int{}
	for range 500 {
		f := tm("(or " + g.formula(2) + " " + g.formula(1+g.Intn(2)) + ")")
		got := valid(t, f, 40)
		other, _, e := smt.Valid(f, 40)
		if e == api.OK && got != other && got != api.Unknown && other != api.Unknown {
			t.Fatal(term.Format(f), got, other)
		}
		counts[got]++
	}
	if counts[api.Sat] < 100 || counts[api.Unsat] < 60 || counts[api.Unknown] > 20 {
		t.Error(counts)
	}
}

const loop = "(declare-fun P (Int) Bool)(assert (forall ((x Int) (u Bool)) (=> (> x 0) (P x))))(assert (forall ((x Int)) (=> (and (P x) (< x 9)) (P (+ x 1)))))(assert (forall ((x Int)) (=> (P x) (< (- 5) x))))"

func TestP442P443P444(t *testing.T) {
	s, _, e := system.Parse(loop)
	if e != api.OK {
		t.Fatal(e)
	}
	model := func(src string) api.Model {
		m, _, e := certificate.ParseModel(src)
		if e != api.OK {
			t.Fatal(src)
		}
		return m
	}
	for body, want := range map[string]int{"(> z 0)": -1, "(> z 1)": 0, "(or (> z 0) (= z (- 3)))": 1, "true": 2, "false": 0, "(> z (- 5))": -1} {
		m := model("(define-fun P ((z Int)) Bool " + body + ")")
		f, e := Model(s, m, 20)
		if e != api.OK || f.Clause != want || (f.Answer == api.Unsat) != (want == -1) {
			t.Error(body, f, e)
		}
		if want < 0 {
			continue
		}
		c := s.Clauses[want]
		var vals []api.Value
		for i, b := range f.Counter {
			if b.Name != c.Vars[i].Name {
				t.Error("order")
			}
			vals = append(vals, b.Value)
		}
		if is, e := certificate.ClauseAt(s, m, want, vals); is || e != api.OK {
			t.Error(body, vals, e)
		}
		if g, e := Clause(s, want, m, 20); e != api.OK || g.Answer != api.Sat || g.Clause != want {
			t.Error(g, e)
		}
	}
	m := model("(define-fun P ((z Int)) Bool (> z 1))")
	if f, e := Clause(s, 0, m, 20); e != api.OK || f.Counter[0].Value.Num != "1" || len(f.Counter) != 2 {
		t.Error(f, e)
	}
	if f, e := Clause(s, 1, m, 20); e != api.OK || f.Answer != api.Unsat || f.Clause != -1 || len(f.Counter) > 0 {
		t.Error(f, e)
	}
	for i, c := range []struct {
		i, budget int
		m         api.Model
	}{{3, 1, m}, {-1, 1, m}, {0, -1, m}, {0, 1, api.Model{}}} {
		if _, e := Clause(s, c.i, c.m, c.budget); e != api.ErrInvalid {
			t.Error(i, e)
		}
	}
	if _, e := Model(s, m, -1); e != api.ErrInvalid {
		t.Error(e)
	}
	if _, e := Model(s, api.Model{}, 1); e != api.ErrInvalid {
		t.Error(e)
	}
	arrays, _, _ := system.Parse("(declare-fun P ((Array Int Int)) Bool)(assert (forall ((a (Array Int Int))) (=> (= a (const 0)) (P a))))")
	if _, e := Model(arrays, model("(define-fun P ((z (Array Int Int))) Bool true)"), 1); e != api.ErrForm {
		t.Error(e)
	}
}

func TestP443Tree(t *testing.T) {
	s, _, _ := system.Parse("(declare-fun P (Int) Bool)(assert (P 0))(assert (forall ((x Int)) (not (P x))))")
	d, _, _ := certificate.ParseTree(s, "(1 (0) (0 ()))")
	if !Tree(s, d) || Tree(s, d[1:]) || Tree(s, nil) || Tree(api.System{Preds: []api.Func{{}}}, d) {
		t.Error("Tree")
	}
}

// TestEliminationAndPivoting compares the two ways to decide rows.
func TestEliminationAndPivoting(t *testing.T) {
	r := rand.New(rand.NewSource(28))
	g := generator{r}
	for range 300 {
		var atoms []string
		for range 2 + r.Intn(6) {
			atoms = append(atoms, "("+[]string{"<", "<=", "="}[r.Intn(3)]+" (+ (* "+strconv.Itoa(1+r.Intn(3))+" x) (- y) z) (+ "+g.integer(0)+" (* 2 z)))")
		}
		p := &problem{}
		for _, s := range atoms {
			p.atoms = append(p.atoms, tm(s))
		}
		var rows []row
		for i, s := range p.atoms {
			c, _ := comparison(s, true)
			q := row{from: set{}.with(i), strict: c.Rel == api.RelLt, equal: c.Rel == api.RelEq}
			for _, name := range []string{"x", "y", "z"} {
				q.c = append(q.c, coef(c.Lin, name))
			}
			q.k = constant(c.Lin)
			rows = append(rows, q)
		}
		_, from, sat := relax(3, rows, false)
		_, _, other := byPivoting(3, rows)
		if sat != other || !sat && len(from.elements()) == 0 {
			t.Fatal(atoms, sat, other)
		}
		if !sat {
			var core []row
			for _, i := range from.elements() {
				core = append(core, rows[i])
			}
			if _, _, again := byPivoting(3, core); again {
				t.Fatal("core", atoms, from.elements())
			}
		}
	}
}

func coef(l api.Linear, name string) exact.Rat {
	for _, c := range l.Coefs {
		if c.Name == name {
			return exact.Must(c.Num)
		}
	}
	return exact.Rat{}
}

func constant(l api.Linear) exact.Rat { return exact.Must(l.Const).Neg() }
