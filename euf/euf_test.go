package euf

import (
	"math/rand"
	"strings"
	"testing"

	"chcsolver/api"
	"chcsolver/term"
	"chcsolver/tree"
)

var vars = []api.Var{{Name: "a", Sort: 2}, {Name: "b", Sort: 2}, {Name: "c", Sort: 2}, {Name: "d", Sort: 2}, {Name: "p", Sort: 1}, {Name: "r", Sort: 3}}
var funcs = []api.Func{{Name: "f", Args: []int{2}, Result: 2}, {Name: "g", Args: []int{2, 2}, Result: 2}}

func tm(s string) api.Term {
	t, _, e := term.Parse(s, vars, funcs)
	if e != api.OK {
		panic(s)
	}
	return t
}

// eqs reads equations of the form "a = b" or "a # b".
func eqs(l ...string) []api.Equation {
	var out []api.Equation
	for _, s := range l {
		a, b, equal := strings.Cut(s, " = ")
		if !equal {
			a, b, _ = strings.Cut(s, " # ")
		}
		out = append(out, api.Equation{A: tm(a), B: tm(b), Equal: equal})
	}
	return out
}

func text(classes [][]api.Term) string {
	var parts []string
	for _, c := range classes {
		var l []string
		for _, t := range c {
			l = append(l, term.Format(t))
		}
		parts = append(parts, strings.Join(l, " "))
	}
	return strings.Join(parts, "; ")
}

func TestP261Close(t *testing.T) {
	for _, c := range []struct {
		l    []api.Equation
		want string
	}{
		{eqs("(f a) = b", "a = c", "(f c) # 1"), "(f a) b (f c); a c; 1"}, {eqs("(f (f (f a))) = a", "(f (f (f (f (f a))))) = a"), "(f (f (f a))) (f (f a)) (f a) a (f (f (f (f (f a))))) (f (f (f (f a))))"}, {eqs("1 = 2", "(+ a 1) # (+ a 2)"), "1 2; (+ a 1) (+ a 2); a"}, {eqs("(div a 2) # (div b 3)", "a = b"), "(div a 2); a b; (div b 3)"}, {nil, ""},
	} {
		l, e := Close(c.l)
		if e != api.OK || text(l) != c.want {
			t.Error(text(l), e)
		}
	}
	for _, q := range []api.Equation{{A: tm("a"), B: tm("r")}, {A: nil, B: tm("a")}, {A: tm("a")}} {
		bad := []api.Equation{q}
		_, e := Close(bad)
		_, e2 := Follows(bad, tm("a"), tm("a"))
		_, e3 := Prove(nil, q.A, q.B)
		_, e4 := Solve(bad)
		_, e5 := Follows(nil, q.A, q.B)
		if e != api.ErrInvalid || e2 != e || e3 != e || e4 != e || e5 != e || Check(bad, []api.Line{{A: tm("a"), B: tm("a"), Rule: api.RuleReflexive}}) {
			t.Error(e, e2, e3, e4, e5)
		}
	}
}

func TestP262Prove(t *testing.T) {
	l := eqs("(f a) = b", "a = c")
	if is, e := Follows(l, tm("(f c)"), tm("b")); !is || e != api.OK {
		t.Error(e)
	}
	if is, e := Follows(l, tm("(f c)"), tm("c")); is || e != api.OK {
		t.Error(e)
	}
	if is, e := Follows(nil, tm("d"), tm("d")); !is || e != api.OK {
		t.Error(e)
	}
	lines, e := Prove(l, tm("(g (f c) d)"), tm("(g b d)"))
	if e != api.OK || !Check(l, lines) || term.Format(lines[len(lines)-1].A) != "(g (f c) d)" || term.Format(lines[len(lines)-1].B) != "(g b d)" {
		t.Error(e)
	}
	if _, e := Prove(l, tm("a"), tm("b")); e != api.ErrProof {
		t.Error(e)
	}
}

func TestP263Solve(t *testing.T) {
	l := eqs("a # d", "(f a) # (f c)", "a = b", "b = c", "a # c")
	r, e := Solve(l)
	if e != api.OK || r.Answer != api.Unsat || r.Violated != 1 || !Check(l, r.Lines) || term.Format(r.Lines[len(r.Lines)-1].B) != "(f c)" {
		t.Error(r, e)
	}
	if r, e := Solve(eqs("a # b", "1 = 2")); e != api.OK || r.Answer != api.Sat || len(r.Lines) != 0 {
		t.Error(r, e)
	}
}

func TestP264Check(t *testing.T) {
	l := eqs("a = b", "b = c", "a # d")
	ab := api.Line{A: tm("a"), B: tm("b"), Rule: api.RuleGiven}
	cb := api.Line{A: tm("c"), B: tm("b"), Rule: api.RuleGiven, From: 1, Args: []int{7}}
	bc := api.Line{A: tm("b"), B: tm("c"), Rule: api.RuleGiven, From: 1}
	for i, c := range []struct {
		lines []api.Line
		want  bool
	}{
		{nil, false}, {[]api.Line{ab}, true}, {[]api.Line{cb}, true}, {[]api.Line{{A: tm("a"), B: tm("c"), Rule: api.RuleGiven}}, false}, {[]api.Line{{A: tm("a"), B: tm("d"), Rule: api.RuleGiven, From: 2}}, false}, {[]api.Line{{A: tm("a"), B: tm("b"), Rule: api.RuleGiven, From: 3}}, false}, {[]api.Line{{A: tm("a"), B: tm("b"), Rule: api.RuleGiven, From: -1}}, false},
		{[]api.Line{{A: tm("a"), B: tm("b"), Rule: api.RuleReflexive}}, false}, {[]api.Line{{A: tm("d"), B: tm("d"), Rule: api.RuleReflexive}}, true}, {[]api.Line{ab, bc, {A: tm("a"), B: tm("c"), Rule: api.RuleTransitive, Args: []int{0, 1}}}, true}, {[]api.Line{ab, cb, {A: tm("a"), B: tm("c"), Rule: api.RuleTransitive, Args: []int{0, 1}}}, false}, {[]api.Line{ab, bc, {A: tm("a"), B: tm("c"), Rule: api.RuleTransitive, Args: []int{0, 2}}}, false}, {[]api.Line{ab, {A: tm("a"), B: tm("b"), Rule: api.RuleTransitive, Args: []int{0}}}, false},
		{[]api.Line{ab, {A: tm("(f a)"), B: tm("(f b)"), Rule: api.RuleCongruent, Args: []int{0}}}, true}, {[]api.Line{ab, {A: tm("(f b)"), B: tm("(f a)"), Rule: api.RuleCongruent, Args: []int{0}}}, false}, {[]api.Line{ab, {A: tm("(f a)"), B: tm("(- b)"), Rule: api.RuleCongruent, Args: []int{0}}}, false}, {[]api.Line{{A: tm("a"), B: tm("a"), Rule: api.RuleCongruent}}, true}, {[]api.Line{{A: tm("a"), B: tm("b"), Rule: api.RuleCongruent}}, false}, {[]api.Line{{A: tm("a"), B: tm("a"), Rule: 9}}, false}, {[]api.Line{{A: tm("a"), B: tm("p"), Rule: api.RuleReflexive}}, false}, {[]api.Line{ab, {A: tm("(f a)"), B: tm("(f b)"), Rule: api.RuleCongruent, Args: []int{1}}}, false},
	} {
		if Check(l, c.lines) != c.want {
			t.Error(i)
		}
	}
}

// TestP261P265P266Random compares the classes with those that repeated application of the rules yields.
func TestP261P265P266Random(t *testing.T) {
	r := rand.New(rand.NewSource(10))
	var random func(d int) string
	random = func(d int) string {
		if d == 0 {
			return []string{"a", "b", "c", "d", "1"}[r.Intn(5)]
		}
		return []string{"(f " + random(d-1) + ")", "(g " + random(d-1) + " " + random(r.Intn(d)) + ")", "(+ " + random(d-1) + " 1)"}[r.Intn(3)]
	}
	for range 300 {
		var l []api.Equation
		for range 1 + r.Intn(6) {
			l = append(l, api.Equation{A: tm(random(r.Intn(3))), B: tm(random(r.Intn(3))), Equal: r.Intn(4) > 0})
		}
		classes, _ := Close(l)
		number := map[string]int{}
		var all []api.Term
		for i, c := range classes {
			for _, x := range c {
				number[tree.Key(x)] = i
				all = append(all, x)
			}
		}
		for _, q := range l {
			if q.Equal && number[tree.Key(q.A)] != number[tree.Key(q.B)] {
				t.Fatal("given", text(classes))
			}
		}
		for _, x := range all {
			for _, y := range all {
				same := number[tree.Key(x)] == number[tree.Key(y)]
				congruent := operation(x) == operation(y)
				for k := range tree.Kids(x) {
					congruent = congruent && number[tree.Key(tree.Kids(x)[k])] == number[tree.Key(tree.Kids(y)[k])]
				}
				if congruent && !same {
					t.Fatal("congruent", term.Format(x), term.Format(y))
				}
				lines, e := Prove(l, x, y)
				if same != (e == api.OK) || same && !Check(l, lines) {
					t.Fatal("proof", term.Format(x), term.Format(y), e)
				}
			}
		}
	}
}
