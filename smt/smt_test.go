package smt_test

import (
	"math/rand"
	"slices"
	"strconv"
	"strings"
	"testing"

	"chcsolver/api"
	"chcsolver/smt"
	"chcsolver/smtproof"
	"chcsolver/term"
	"chcsolver/tree"
	"chcsolver/value"
)

var vars = []api.Var{{Name: "x", Sort: 2}, {Name: "y", Sort: 2}, {Name: "z", Sort: 2}, {Name: "p", Sort: 1}, {Name: "q", Sort: 1}, {Name: "r", Sort: 3}, {Name: "s", Sort: 3}, {Name: "a", Sort: 4}, {Name: "b", Sort: 4}}

func tm(s string) api.Term {
	t, _, e := term.Parse(s, vars, nil)
	if e != api.OK {
		panic(s)
	}
	return t
}

func solve(t *testing.T, f api.Term, budget int) int {
	t.Helper()
	r, e := smt.Solve(f, budget)
	if e != api.OK {
		t.Fatal(term.Format(f), e)
	}
	ascending := slices.IsSortedFunc(r.Model, func(a, b api.Binding) int { return strings.Compare(a.Name, b.Name) })
	if r.Answer == api.Sat && (!value.Holds(f, r.Model, nil) || len(r.Model) != len(tree.Vars(f)) || !ascending) {
		t.Fatal("model", term.Format(f), r.Model)
	}
	if r.Answer == api.Unsat && !smtproof.Check(f, r.Proof) {
		t.Fatal("proof", term.Format(f))
	}
	return r.Answer
}

func TestP301Prepare(t *testing.T) {
	f := tm("(= (select (store a x 1) (mod y 2)) 2)")
	for i, c := range []struct {
		f         api.Term
		instances []int
		e         api.Errno
		want      string
	}{{tm("(= (mod x 2) 1)"), nil, api.OK, "(and (and (= (+ x (* (- 2) q)) 1)) (<= (* 2 q) x) (< x (+ (* 2 q) 2)))"}, {tm("p"), nil, api.OK, "(and p)"}, {f, []int{0, 2}, api.OK, "(and (= !r0_0 2) (= !r0_1 1) (= !d0 !d1))"}, {f, []int{2, 0}, api.ErrForm, ""}, {f, []int{0, 0}, api.ErrForm, ""}, {f, []int{-1}, api.ErrForm, ""}, {f, []int{99}, api.ErrForm, ""}, {nil, []int{9}, api.ErrInvalid, ""}} {
		p, e := smt.Prepare(c.f, c.instances)
		if e != c.e || term.Format(p) != c.want {
			t.Error(i, e, term.Format(p))
		}
	}
}

func TestP302Solve(t *testing.T) {
	for s, want := range map[string]int{
		"(and (< x y) (< y (+ x 1)))": api.Unsat, "(and (< r s) (< s (+ r 1.0)))": api.Sat, "(and (= (mod x 2) 1) (= x (* 2 y)))": api.Unsat, "(and (not (= (select (store a x 1) y) (select a y))) (not (= x y)))": api.Unsat, "(not (= (select (store a x 1) y) (select a y)))": api.Sat, "true": api.Sat, "false": api.Unsat, "(and p (not p))": api.Unsat, "(= p (not q))": api.Sat,
		"(and (not (= a b)) (= a (store b x 1)) (= (select b x) 1))": api.Unsat, "(and (not (= a b)) (= a (store b x 1)))": api.Sat, "(= (const 1) (store (const 1) 2 3))": api.Unsat, "(and (= a (ite p b (const 0))) (not p) (= (select a 3) 1))": api.Unsat, "(and (not (= x y)) (<= x y) (<= y x))": api.Unsat, "(not (= x x))": api.Unsat, "(not (= x y))": api.Sat, "(and (<= 0 x) (<= x 2) (not (= x 0)) (not (= x 1)) (not (= x 2)))": api.Unsat,
		"(and (= x y) (= y z) (not (= x z)))": api.Unsat, "(and (not (= r s)) (<= r s) (<= s (+ r 0.5)))": api.Sat, "(= (div x 3) (- 2))": api.Sat, "(and (= (ite p x y) 3) (< x 3) (< y 3))": api.Unsat, "(and (<= 1 (+ (* 3 x) (* (- 3) y))) (<= (+ (* 3 x) (* (- 3) y)) 2))": api.Unsat, "(and (= (select a x) 1) (= (select a y) 2) (= x y))": api.Unsat, "(and (= 1 1) (< 1 2))": api.Sat, "(= (select (const x) 5) (+ x 1))": api.Unsat,
	} {
		if got := solve(t, tm(s), 50); got != want {
			t.Error(s, got)
		}
	}
	var wide []api.Term
	for i := range 41 {
		wide = append(wide, tree.Lt(tree.Var("v"+strconv.Itoa(i), 2), tm("1")))
	}
	many := func(n int) api.Term {
		var l []api.Term
		for i := range n {
			l = append(l, tree.Le(tm("x"), tree.Num(strconv.Itoa(i), 2)))
		}
		return tree.And(l...)
	}
	for i, c := range []struct {
		f      api.Term
		budget int
		e      api.Errno
	}{{nil, 1, api.ErrInvalid}, {tm("x"), 1, api.ErrInvalid}, {tm("p"), -1, api.ErrInvalid}, {tm("p"), api.MaxBudget + 1, api.ErrInvalid}, {tree.And(wide...), 1, api.ErrLimit}, {tree.And(wide[:40]...), 1, api.OK}, {many(201), 1, api.ErrLimit}, {many(200), 1, api.OK}} {
		if r, e := smt.Solve(c.f, c.budget); e != c.e || e == api.OK && r.Answer != api.Sat {
			t.Error(i, e)
		}
	}
}

func TestP303Core(t *testing.T) {
	l := []api.Term{tm("p"), tm("(< x y)"), tm("(< r s)"), tm("(< y x)"), tm("(=> p (< y z))"), tm("(< z x)"), tm("q")}
	a, core, e := smt.Core(l, 10)
	if e != api.OK || a != api.Unsat || !slices.IsSorted(core) {
		t.Fatal(a, core, e)
	}
	for k := -1; k < len(core); k++ {
		var rest []api.Term
		for i, c := range core {
			if i != k {
				rest = append(rest, l[c])
			}
		}
		if r, _ := smt.Solve(tree.And(rest...), 10); (r.Answer == api.Unsat) != (k < 0) {
			t.Error(core, k)
		}
	}
	if a, core, e := smt.Core(l[:3], 10); a != api.Sat || len(core) > 0 || e != api.OK {
		t.Error(a, core, e)
	}
	if a, core, e := smt.Core(nil, 0); a != api.Sat || len(core) > 0 || e != api.OK {
		t.Error(a, core, e)
	}
	if a, core, e := smt.Core([]api.Term{tm("p"), tm("false")}, 0); a != api.Unsat || !slices.Equal(core, []int{1}) || e != api.OK {
		t.Error(a, core, e)
	}
	if _, _, e := smt.Core([]api.Term{tm("x")}, 0); e != api.ErrInvalid {
		t.Error(e)
	}
	if _, _, e := smt.Core(nil, -1); e != api.ErrInvalid {
		t.Error(e)
	}
}

func TestP304Valid(t *testing.T) {
	if a, m, e := smt.Valid(tm("(or (< x y) (<= y x))"), 5); a != api.Unsat || len(m) > 0 || e != api.OK {
		t.Error(a, m, e)
	}
	f := tm("(=> (< x y) (< x 3))")
	if a, m, e := smt.Valid(f, 5); a != api.Sat || value.Holds(f, m, nil) || len(m) != 2 || e != api.OK {
		t.Error(a, m, e)
	}
	if _, _, e := smt.Valid(tm("x"), 5); e != api.ErrInvalid {
		t.Error(e)
	}
	num := func(s string) api.Value { return api.Value{Sort: 2, Num: s} }
	env := []api.Binding{{Name: "x", Value: num("1")}, {Name: "y", Value: num("2")}, {Name: "p", Value: api.Value{Sort: 1}}, {Name: "q", Value: api.Value{Sort: 1, Bool: true}}}
	for _, s := range []string{"(or p (< x y) (= x 1))", "(=> p (< y x))", "(and (not p) (= p (< y x)) (ite q (<= x y) p))", "(not (and p q))", "(ite p p q)", "true", "(and q q)"} {
		l, e := smt.Implicant(tm(s), env)
		if e != api.OK {
			t.Fatal(s, e)
		}
		seen := map[string]bool{}
		for _, k := range l {
			if seen[term.Format(k)] || !value.Holds(k, env, nil) {
				t.Error(s, term.Format(k))
			}
			seen[term.Format(k)] = true
		}
		if a, _, _ := smt.Valid(tree.Implies(tree.And(l...), tm(s)), 10); a != api.Unsat {
			t.Error(s)
		}
	}
	for s, want := range map[string]api.Errno{"p": api.ErrForm, "(< z 1)": api.ErrUnbound, "x": api.ErrInvalid} {
		if _, e := smt.Implicant(tm(s), env); e != want {
			t.Error(s, e)
		}
	}
}

func TestP302UnknownRules(t *testing.T) {
	endless := tm("(and (= (+ (* 2 x) (* (- 2) y) (* 3 z)) 1) (<= 0 (* 3 z)) (<= (* 3 z) 1))")
	last := api.Unknown
	for b := range 30 {
		got := solve(t, endless, b)
		if last != api.Unknown && got != last {
			t.Error(b)
		}
		last = got
	}
	box := tm("(and (<= 0 x) (<= x 3) (<= 0 y) (<= y 4) (= (+ (* 6 x) (* 10 y)) 13) (or p (< x y)))")
	if solve(t, box, 20) != api.Unsat {
		t.Error("B2")
	}
	if solve(t, tm("(and (< r s) (or p (< s r)) (not p))"), 0) != api.Unsat {
		t.Error("B3")
	}
}

type generator struct{ *rand.Rand }

func (g generator) integer(d int) string {
	if d == 0 {
		return []string{"x", "y", strconv.Itoa(g.Intn(3))}[g.Intn(3)]
	}
	a := g.integer(d - 1)
	return []string{"(+ " + a + " " + g.integer(0) + ")", "(* 2 " + a + ")", "(- " + a + ")", "(mod " + a + " 2)", "(ite " + g.formula(d-1) + " " + a + " y)", "(select " + g.array(d-1) + " " + a + ")"}[g.Intn(6)]
}

func (g generator) array(d int) string {
	if d == 0 {
		return []string{"a", "b"}[g.Intn(2)]
	}
	return []string{"(store " + g.array(d-1) + " " + g.integer(0) + " " + g.integer(0) + ")", "(const " + g.integer(0) + ")", "(ite p a b)"}[g.Intn(3)]
}

func (g generator) formula(d int) string {
	i := g.integer(g.Intn(d + 1))
	atom := []string{"p", "q", "(= " + i + " " + g.integer(0) + ")", "(< " + i + " " + g.integer(0) + ")", "(<= r (* 2.0 s))", "(= r s)", "(< s 1.0)", "(= " + g.array(g.Intn(2)) + " b)"}[g.Intn(8)]
	if d == 0 {
		return atom
	}
	f, h := g.formula(d-1), g.formula(d-1)
	return []string{"(and " + f + " " + h + ")", "(or " + f + " " + h + ")", "(not " + f + ")", "(= " + f + " " + h + ")", "(and (not " + f + ") " + h + ")", atom}[g.Intn(6)]
}

// TestP302P305Random compares the answers with a search for small models.
func TestP302P305Random(t *testing.T) {
	g := generator{rand.New(rand.NewSource(14))}
	counts := map[int]int{}
	for range 700 {
		f := tm("(and " + g.formula(2) + " " + g.formula(1+g.Intn(2)) + ")")
		got := solve(t, f, 30)
		counts[got]++
		if got != api.Unsat {
			continue
		}
		for range 300 {
			num := func(sort int) api.Value { return api.Value{Sort: sort, Num: strconv.Itoa(g.Intn(5) - 2)} }
			env := []api.Binding{{Name: "x", Value: num(2)}, {Name: "y", Value: num(2)}, {Name: "r", Value: num(3)}, {Name: "s", Value: num(3)}, {Name: "p", Value: api.Value{Sort: 1, Bool: g.Intn(2) == 0}}, {Name: "q", Value: api.Value{Sort: 1, Bool: g.Intn(2) == 0}}}
			for _, name := range []string{"a", "b"} {
				v, _ := value.Store(num(4), num(2).Num, num(2).Num)
				env = append(env, api.Binding{Name: name, Value: v})
			}
			if value.Holds(f, env, nil) {
				t.Fatal("a model", term.Format(f), env)
			}
		}
	}
	if counts[api.Sat] < 100 || counts[api.Unsat] < 100 || counts[api.Unknown] > 20 {
		t.Error(counts)
	}
}
