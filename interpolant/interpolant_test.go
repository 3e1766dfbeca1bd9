package interpolant

import (
	"math/rand"
	"slices"
	"strconv"
	"testing"

	"chcsolver/api"
	"chcsolver/cuts"
	"chcsolver/fol"
	"chcsolver/simplex"
	"chcsolver/smt"
	"chcsolver/term"
	"chcsolver/tree"
	"chcsolver/value"
)

var vars = []api.Var{{Name: "x", Sort: 2}, {Name: "y", Sort: 2}, {Name: "z", Sort: 2}, {Name: "u", Sort: 2}, {Name: "v", Sort: 2}, {Name: "p", Sort: 1}, {Name: "q", Sort: 1}, {Name: "r", Sort: 3}, {Name: "s", Sort: 3}, {Name: "t", Sort: 3}, {Name: "a", Sort: 4}, {Name: "b", Sort: 4}}

func tm(s string) api.Term {
	t, _, e := term.Parse(s, vars, nil)
	if e != api.OK {
		panic(s)
	}
	return t
}

func row(rel int, l ...string) api.Row { return api.Row{C: l[:len(l)-1], Rel: rel, K: l[len(l)-1]} }

func TestP351Farkas(t *testing.T) {
	a, b := []api.Row{row(1, "1", "-1", "0", "0"), row(1, "0", "1", "-1", "0")}, []api.Row{row(2, "-1", "0", "1", "0")}
	r, e := Farkas(3, a, b, []string{"1", "1", "1"})
	if e != api.OK || !slices.Equal(r.C, []string{"1", "0", "-1"}) || r.K != "0" || r.Rel != api.RowLe {
		t.Error(r, e)
	}
	if r, e := Farkas(3, b, a, []string{"1", "1", "1"}); e != api.OK || r.Rel != api.RowLt {
		t.Error(r, e)
	}
	if r, e := Farkas(1, nil, []api.Row{row(1, "0", "-1")}, []string{"1"}); e != api.OK || r.K != "0" || r.C[0] != "0" {
		t.Error(r, e)
	}
	for i, c := range []struct {
		n      int
		a, b   []api.Row
		farkas []string
		e      api.Errno
	}{{-1, nil, nil, nil, api.ErrInvalid}, {2, a, b, []string{"1", "1", "1"}, api.ErrInvalid}, {3, a, b, []string{"1", "1"}, api.ErrInvalid}, {3, a, b, []string{"1", "1", "x"}, api.ErrInvalid}, {3, slices.Repeat(a, 101), b, slices.Repeat([]string{"1"}, 203), api.ErrInvalid}, {3, a, b, []string{"1", "1", "2"}, api.ErrProof}} {
		if _, e := Farkas(c.n, c.a, c.b, c.farkas); e != c.e {
			t.Error(i, e)
		}
	}
}

func TestP352Split(t *testing.T) {
	a, b := []api.Row{row(3, "1", "-2", "0", "0")}, []api.Row{row(3, "1", "0", "-2", "1")}
	r, _ := cuts.Solve(3, slices.Concat(a, b), 10)
	if _, e := Split([]string{"x", "y", "z"}, a, b, r.Proof); e != api.ErrForm {
		t.Error(e)
	}
	for i, c := range []struct {
		names []string
		proof []api.Cut
		e     api.Errno
	}{{[]string{"x", "x", "z"}, r.Proof, api.ErrInvalid}, {[]string{"x", "and", "z"}, r.Proof, api.ErrInvalid}, {[]string{"x", "y"}, r.Proof, api.ErrInvalid}, {[]string{"x", "y", "z"}, nil, api.ErrProof}} {
		if _, e := Split(c.names, a, b, c.proof); e != c.e {
			t.Error(i, e)
		}
	}
	g := rand.New(rand.NewSource(19))
	found := 0
	for range 800 {
		rows := func(free int) []api.Row {
			var l []api.Row
			for range 2 + g.Intn(2) {
				c := []string{}
				for range 3 {
					c = append(c, strconv.Itoa(g.Intn(7)-3))
				}
				c[free] = "0"
				l = append(l, api.Row{C: c, Rel: 1 + g.Intn(3), K: strconv.Itoa(g.Intn(7) - 3)})
			}
			return l
		}
		a, b := rows(0), rows(2)
		r, _ := cuts.Solve(3, slices.Concat(a, b), 12)
		if r.Answer != api.Unsat {
			continue
		}
		f, e := Split([]string{"x", "y", "z"}, a, b, r.Proof)
		if e == api.ErrForm {
			continue
		}
		found++
		for range 60 {
			env := []api.Binding{}
			var point []string
			for _, name := range []string{"x", "y", "z"} {
				n := strconv.Itoa(g.Intn(9) - 4)
				point = append(point, n)
				env = append(env, api.Binding{Name: name, Value: api.Value{Sort: 2, Num: n}})
			}
			is := value.Holds(f, env, nil)
			if simplex.Holds(a, point) && !is || simplex.Holds(b, point) && is || fol.Contains(f, "x") || fol.Contains(f, "z") {
				t.Fatal(a, b, term.Format(f), env)
			}
		}
	}
	if found < 100 {
		t.Error(found)
	}
}

func TestP353P356Chain(t *testing.T) {
	hop := func(s string, fromA bool) api.Hop { return api.Hop{Term: tm(s), FromA: fromA} }
	path := []api.Hop{hop("x", true), hop("y", true), hop("z", false), hop("u", true)}
	for _, c := range []struct {
		fromA bool
		want  string
	}{{false, "(and (= x z) (= u v))"}, {true, "(not (and (= z u)))"}} {
		if f, e := Chain(path, tm("v"), c.fromA); e != api.OK || term.Format(f) != c.want {
			t.Error(term.Format(f), e)
		}
	}
	if f, e := Chain([]api.Hop{hop("x", false)}, tm("v"), false); e != api.OK || term.Format(f) != "(and)" {
		t.Error(term.Format(f), e)
	}
	for i, c := range []struct {
		path []api.Hop
		last api.Term
	}{{nil, tm("x")}, {path, tm("r")}, {path, nil}, {[]api.Hop{{}}, tm("x")}} {
		if _, e := Chain(c.path, c.last, true); e != api.ErrInvalid {
			t.Error(i, e)
		}
	}
}

func checkOf(t *testing.T, a, b api.Term, budget int) int {
	t.Helper()
	f, answer, e := Of(a, b, budget)
	if e != api.OK {
		t.Fatal(term.Format(a), term.Format(b), e)
	}
	if answer != api.Unsat {
		if len(f) > 0 {
			t.Fatal("a formula")
		}
		return answer
	}
	for _, v := range tree.Vars(f) {
		if !fol.Contains(a, v.Name) || !fol.Contains(b, v.Name) {
			t.Fatal("variable", term.Format(f))
		}
	}
	one, _, _ := smt.Valid(tree.Implies(a, f), 200)
	two, _, _ := smt.Valid(tree.Not(tree.And(b, f)), 200)
	if one == api.Sat || two == api.Sat {
		t.Fatal(term.Format(a), term.Format(b), term.Format(f))
	}
	return answer
}

func TestP354Of(t *testing.T) {
	for _, c := range []struct {
		a, b string
		want int
	}{
		{"(and (<= x y) (<= y z))", "(< z x)", api.Unsat}, {"(= x (* 2 y))", "(= x (+ 1 (* 2 z)))", api.Unsat}, {"(and p (< x y))", "(and (not p) (< y x))", api.Unsat}, {"(< x y)", "(< y z)", api.Sat}, {"(and (= (mod x 2) 0) (= u x))", "(and (= (mod u 2) 1) (= u v))", api.Unsat}, {"(and (< r s) (< s t))", "(< t r)", api.Unsat}, {"(or (and (= x 1) (< y 3)) (and (= x 2) (< y 9) (< u y)))", "(and (= v y) (< 10 v) (< z y))", api.Unsat}, {"(= (select a x) 1)", "(= (select a x) 2)", api.Unsat}, {"false", "p", api.Unsat}, {"(and (not (= x y)) (<= x y) (= y z))", "(and (= z u) (<= u v) (= v x))", api.Unsat},
	} {
		if got := checkOf(t, tm(c.a), tm(c.b), 40); got != c.want {
			t.Error(c.a, c.b, got)
		}
	}
	if got := checkOf(t, tm("(= a (store b x 1))"), tm("(and (= (select a x) 2) (= y z))"), 40); got == api.Sat {
		t.Error(got)
	}
	for _, c := range []struct {
		a, b   api.Term
		budget int
	}{{nil, tm("p"), 1}, {tm("p"), tm("x"), 1}, {tm("p"), tm("p"), -1}, {tm("p"), tree.Eq(tree.Var("p", 2), tm("x")), 1}} {
		if _, _, e := Of(c.a, c.b, c.budget); e != api.ErrInvalid {
			t.Error(e)
		}
	}
}

type generator struct{ *rand.Rand }

func (g generator) formula(d int, own []string) string {
	pick := func() string { return own[g.Intn(len(own))] }
	if d == 0 {
		side := func() string { return "(+ " + pick() + " (* 2 " + pick() + ") " + strconv.Itoa(g.Intn(5)-2+2) + ")" }
		return []string{"p", "(< " + pick() + " " + pick() + ")", "(<= " + side() + " " + pick() + ")", "(= " + pick() + " " + side() + ")", "(= (mod " + pick() + " 2) 1)", "(< r s)", "(<= s (+ r 1.0))"}[g.Intn(7)]
	}
	a, b := g.formula(d-1, own), g.formula(d-1, own)
	return []string{"(and " + a + " " + b + ")", "(or " + a + " " + b + ")", "(not " + a + ")", "(and " + a + " " + b + ")"}[g.Intn(4)]
}

func TestP354P355Random(t *testing.T) {
	g := generator{rand.New(rand.NewSource(20))}
	counts := map[int]int{}
	for range 500 {
		a, b := tm(g.formula(1+g.Intn(3), []string{"x", "y", "u"})), tm(g.formula(1+g.Intn(3), []string{"x", "z", "v"}))
		counts[checkOf(t, a, b, 30)]++
	}
	if counts[api.Unsat] < 30 || counts[api.Unknown] > 30 {
		t.Error(counts)
	}
}
