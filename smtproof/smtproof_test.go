package smtproof

import (
	"slices"
	"testing"

	"chcsolver/api"
	"chcsolver/cnf"
	"chcsolver/prop"
	"chcsolver/smt"
	"chcsolver/term"
	"chcsolver/tree"
)

var vars = []api.Var{{Name: "x", Sort: 2}, {Name: "y", Sort: 2}, {Name: "z", Sort: 2}, {Name: "p", Sort: 1}, {Name: "r", Sort: 3}, {Name: "s", Sort: 3}, {Name: "a", Sort: 4}, {Name: "b", Sort: 4}}

func tm(s string) api.Term {
	t, _, e := term.Parse(s, vars, nil)
	if e != api.OK {
		panic(s)
	}
	return t
}

func tms(l ...string) []api.Term {
	var out []api.Term
	for _, s := range l {
		out = append(out, tm(s))
	}
	return out
}

func TestP311P314Lemmas(t *testing.T) {
	atoms := tms("(< x 1)", "(< 2 x)", "(= x y)", "(< x y)", "(< y x)", "(= y z)", "(= x z)", "(< r 1.0)", "(<= 2.0 r)", "(<= x 1)", "(= (* 2 x) 1)", "p", "(<= (div x 2) 1)", "(= a b)", "(= r s)", "(<= 1 0)")
	line := func(a, b string, rule, from int, args ...int) api.Line {
		return api.Line{A: tm(a), B: tm(b), Rule: rule, From: from, Args: args}
	}
	lines := []api.Line{line("x", "y", api.RuleGiven, 0), line("y", "z", api.RuleGiven, 1), line("x", "z", api.RuleTransitive, 0, 0, 1)}
	leaf := func(l ...string) []api.Cut { return []api.Cut{{Leaf: true, Farkas: l}} }
	for i, c := range []struct {
		l    api.Lemma
		want bool
	}{
		{api.Lemma{Clause: []int{-1, -2}, Kind: api.LemmaLinear, Farkas: []string{"1", "1"}}, true}, {api.Lemma{Clause: []int{-1, -2}, Kind: api.LemmaLinear, Farkas: []string{"1", "2"}}, false}, {api.Lemma{Clause: []int{-1}, Kind: api.LemmaLinear, Farkas: []string{"1"}}, false}, {api.Lemma{Clause: []int{1, -10}, Kind: api.LemmaLinear, Farkas: []string{"1", "1"}}, false}, {api.Lemma{Clause: []int{10, -1}, Kind: api.LemmaLinear, Farkas: []string{"1", "1"}}, true}, {api.Lemma{Clause: []int{-8, -9}, Kind: api.LemmaLinear, Farkas: []string{"1", "1"}}, true},
		{api.Lemma{Clause: []int{-8, -2, -1}, Kind: api.LemmaLinear, Farkas: []string{"0", "1", "1"}}, false}, {api.Lemma{Clause: []int{3, -1, -2}, Kind: api.LemmaLinear, Farkas: []string{"0", "1", "1"}}, false}, {api.Lemma{Clause: []int{-3, -4}, Kind: api.LemmaLinear, Farkas: []string{"-1", "1"}}, true}, {api.Lemma{Clause: []int{-12}, Kind: api.LemmaLinear, Farkas: []string{"1"}}, false}, {api.Lemma{Clause: []int{-13, -1, -2}, Kind: api.LemmaLinear, Farkas: []string{"0", "1", "1"}}, false}, {api.Lemma{Clause: []int{-14}, Kind: api.LemmaLinear, Farkas: []string{"1"}}, false}, {api.Lemma{Clause: []int{-16}, Kind: api.LemmaLinear, Farkas: []string{"1"}}, true},
		{api.Lemma{Kind: api.LemmaLinear}, false}, {api.Lemma{Clause: []int{0}, Kind: api.LemmaLinear, Farkas: []string{"1"}}, false}, {api.Lemma{Clause: []int{17}, Kind: api.LemmaLinear, Farkas: []string{"1"}}, false}, {api.Lemma{Clause: []int{-1 << 63}, Kind: api.LemmaLinear, Farkas: []string{"1"}}, false},
		{api.Lemma{Clause: []int{-11}, Kind: api.LemmaInteger, Cuts: leaf("1")}, true}, {api.Lemma{Clause: []int{-11}, Kind: api.LemmaInteger, Cuts: leaf("0")}, false}, {api.Lemma{Clause: []int{-8, -9}, Kind: api.LemmaInteger, Cuts: leaf("1", "1")}, false}, {api.Lemma{Clause: []int{1, -10}, Kind: api.LemmaInteger, Cuts: leaf("1", "1")}, false}, {api.Lemma{Clause: []int{1, -10, -2}, Kind: api.LemmaInteger, Cuts: leaf("0", "1", "1")}, true},
		{api.Lemma{Clause: []int{-3, 7, -6}, Kind: api.LemmaEquality, Lines: lines}, true}, {api.Lemma{Clause: []int{-3, -6}, Kind: api.LemmaEquality, Lines: lines}, false}, {api.Lemma{Clause: []int{-3, 7, 6}, Kind: api.LemmaEquality, Lines: lines}, false}, {api.Lemma{Clause: []int{-6, 7, -3}, Kind: api.LemmaEquality, Lines: lines}, false}, {api.Lemma{Clause: []int{-3, 7, -6}, Kind: api.LemmaEquality, Lines: lines[:2]}, false}, {api.Lemma{Clause: []int{-3, 7, -6, -4}, Kind: api.LemmaEquality, Lines: lines}, false}, {api.Lemma{Clause: []int{-3, 7, -6}, Kind: api.LemmaEquality}, false},
		{api.Lemma{Clause: []int{3, 4, 5}, Kind: api.LemmaSplit}, true}, {api.Lemma{Clause: []int{3, 5, 4}, Kind: api.LemmaSplit}, false}, {api.Lemma{Clause: []int{3, 4}, Kind: api.LemmaSplit}, false}, {api.Lemma{Clause: []int{-3, 4, 5}, Kind: api.LemmaSplit}, false}, {api.Lemma{Clause: []int{3, 4, 5}}, false}, {api.Lemma{Clause: []int{3, 4, 5}, Kind: 5}, false},
	} {
		if Lemma(atoms, c.l) != c.want {
			t.Error(i)
		}
	}
	if Lemma([]api.Term{nil}, api.Lemma{Clause: []int{1}, Kind: api.LemmaSplit}) {
		t.Error("an atom that is not valid")
	}
}

var unsat = []string{"(and (= (mod x 2) 1) (= x (* 2 y)))", "(and (not (= (select (store a x 1) y) (select a y))) (not (= x y)))", "(and (= x y) (= y z) (not (= x z)))", "(and (<= 0 x) (<= x 2) (not (= x 0)) (not (= x 1)) (not (= x 2)))", "(and p (not p))", "(and (not (= a b)) (= a (store b x 1)) (= (select b x) 1))"}

func TestP311P313Check(t *testing.T) {
	for _, s := range unsat {
		f := tm(s)
		r, _ := smt.Solve(f, 50)
		p := r.Proof
		if r.Answer != api.Unsat || !Check(f, p) || Check(tm("(< x y)"), p) || Check(nil, p) {
			t.Fatal(s)
		}
		for i, change := range []func(p *api.Proof){
			func(p *api.Proof) { p.Steps = p.Steps[:len(p.Steps)-1] }, func(p *api.Proof) { p.Instances = append(p.Instances, 9999) }, func(p *api.Proof) { p.Atoms = append(p.Atoms, tm("p")) }, func(p *api.Proof) { p.Atoms = append(p.Atoms, nil) }, func(p *api.Proof) { p.Atoms = append(p.Atoms, tm("(= x 77)"), tm("(= x 77)")) }, func(p *api.Proof) { p.Lemmas = append(p.Lemmas, api.Lemma{Clause: []int{1}, Kind: 9}) }, func(p *api.Proof) { p.Steps = append([][]int{{9999}}, p.Steps...) }, func(p *api.Proof) { p.Steps = append([][]int{{0}}, p.Steps...) },
		} {
			q := api.Proof{Instances: slices.Clone(p.Instances), Atoms: slices.Clone(p.Atoms), Lemmas: slices.Clone(p.Lemmas), Steps: slices.Clone(p.Steps)}
			if change(&q); Check(f, q) {
				t.Error(s, i)
			}
		}
		if q := (api.Proof{Steps: [][]int{{}}}); s != "(and p (not p))" && Check(f, q) {
			t.Error(s)
		}
		q := p
		q.Atoms = append(slices.Clone(p.Atoms), tm("(= x 77)"))
		if !Check(f, q) {
			t.Error("a superfluous atom", s)
		}
	}
}

func TestP312Trim(t *testing.T) {
	for _, s := range unsat {
		f := tm(s)
		r, _ := smt.Solve(f, 50)
		p := r.Proof
		p.Atoms = append(p.Atoms, tm("(< x 70)"), tm("(< 80 x)"))
		n := len(p.Atoms)
		p.Lemmas = append(p.Lemmas, api.Lemma{Clause: []int{1 - n, -n}, Kind: api.LemmaLinear, Farkas: []string{"1", "1"}})
		if !Check(f, p) {
			t.Fatal(s)
		}
		q, e := Trim(f, p)
		if e != api.OK || !Check(f, q) || len(q.Atoms) != n || len(q.Lemmas) >= len(p.Lemmas) {
			t.Fatal(s, e)
		}
		for i := range q.Lemmas {
			less := q
			less.Lemmas = slices.Delete(slices.Clone(q.Lemmas), i, i+1)
			if _, is := contradictory(f, less); is {
				t.Error(s, "lemma", i)
			}
		}
		for i := range q.Instances {
			less := q
			less.Instances = slices.Delete(slices.Clone(q.Instances), i, i+1)
			if _, is := contradictory(f, less); is {
				t.Error(s, "instance", i)
			}
		}
	}
	if _, e := Trim(tm("p"), api.Proof{Steps: [][]int{{}}}); e != api.ErrProof {
		t.Error(e)
	}
	c, _ := cnf.Of(tree.And(tm("(and p (not p))")))
	if !prop.Check(c.Vars, c.Clauses, [][]int{{}}) {
		t.Error("a proof without lemmas")
	}
}
