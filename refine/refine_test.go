package refine

import (
	"strings"
	"testing"

	"chcsolver/api"
	"chcsolver/certificate"
	"chcsolver/predabs"
	"chcsolver/smt"
	"chcsolver/system"
	"chcsolver/term"
	"chcsolver/tree"
)

func parse(t *testing.T, src string) api.System {
	t.Helper()
	s, at, e := system.Parse(src)
	if e != api.OK {
		t.Fatal(src, at, e)
	}
	return s
}

const simple = "(declare-fun P (Int) Bool)(assert (forall ((x Int)) (=> (= x 0) (P x))))(assert (forall ((x Int)) (=> (and (P x) (> x 0)) false)))(assert (forall ((x Int)) (=> (P x) (P (+ x 1)))))(assert (forall ((x Int) (y Int)) (=> (and (P x) (P y)) (= x y))))"

// shape reads pairs of a clause and a number of children.
func shape(l ...int) []api.ShapeNode {
	var out []api.ShapeNode
	for i := 0; i < len(l); i += 2 {
		out = append(out, api.ShapeNode{Clause: l[i], Kids: l[i+1]})
	}
	return out
}

func empty(s api.System) []api.Basis {
	var l []api.Basis
	for _, p := range s.Preds {
		b := api.Basis{Pred: p.Name}
		for k, sort := range p.Args {
			b.Params = append(b.Params, api.Var{Name: "z" + string(rune('0'+k)), Sort: sort})
		}
		l = append(l, b)
	}
	return l
}

func TestP401Parts(t *testing.T) {
	s := parse(t, simple)
	l, e := Parts(s, shape(3, 2, 2, 1, 0, 0, 0, 0))
	if e != api.OK || len(l) != 4 {
		t.Fatal(l, e)
	}
	for i, want := range []string{"-1 (and (not (= x!0 y!0)) (= x!0 (+ x!1 1)) (= y!0 x!3))", "0 (and true (= x!1 x!2))", "1 (and (= x!2 0))", "0 (and (= x!3 0))"} {
		if got := strings.TrimSpace([]string{"-1", "0", "1", "0"}[i] + " " + term.Format(l[i].F)); got != want || l[i].Parent != []int{-1, 0, 1, 0}[i] {
			t.Error(i, got)
		}
	}
	chain := func(n int) []api.ShapeNode {
		out := shape(1, 1)
		for range n {
			out = append(out, shape(2, 1)...)
		}
		return append(out, shape(0, 0)...)
	}
	long := parse(t, strings.ReplaceAll(simple, "x", strings.Repeat("x", 39)))
	for i, c := range []struct {
		s api.System
		l []api.ShapeNode
		e api.Errno
	}{{s, nil, api.ErrInvalid}, {s, shape(1, 1), api.ErrInvalid}, {s, shape(9, 0), api.ErrInvalid}, {s, shape(1, 1, 1, 1, 0, 0), api.ErrInvalid}, {api.System{Preds: []api.Func{{}}}, shape(0, 0), api.ErrInvalid}, {s, chain(38), api.OK}, {s, chain(39), api.ErrLimit}, {long, shape(0, 0), api.ErrLimit}} {
		_, e := Parts(c.s, c.l)
		if _, e2 := Tree(c.s, c.l, nil); e != c.e || e != api.OK && e2 != e {
			t.Error(i, e, e2)
		}
	}
}

func bind(l ...string) []api.Binding {
	var env []api.Binding
	for i := 0; i < len(l); i += 2 {
		env = append(env, api.Binding{Name: l[i], Value: api.Value{Sort: 2, Num: l[i+1]}})
	}
	return env
}

func TestP402Tree(t *testing.T) {
	s := parse(t, simple)
	l := shape(1, 1, 2, 1, 0, 0)
	d, e := Tree(s, l, bind("x!0", "1", "x!1", "0", "x!2", "0"))
	if e != api.OK || !certificate.Refutes(s, d) {
		t.Error(e)
	}
	if _, e := Tree(s, l, bind("x!0", "2", "x!1", "0", "x!2", "0")); e != api.ErrForm {
		t.Error(e)
	}
	if _, e := Tree(s, l, bind("x!0", "1", "x!1", "0")); e != api.ErrUnbound {
		t.Error(e)
	}
	if _, e := Tree(s, l, []api.Binding{{Name: "x!0", Value: api.Value{Sort: 1}}}); e != api.ErrSort {
		t.Error(e)
	}
}

func TestP403P404Refine(t *testing.T) {
	s := parse(t, simple)
	other := parse(t, "(declare-fun P (Int Int) Bool)(assert (forall ((x Int)) (P x (+ x 1))))(assert (forall ((x Int) (y Int)) (=> (and (P x y) (P y x)) false)))(assert (forall ((x Int)) (not (P x x))))")
	for i, c := range []struct {
		s    api.System
		l    []api.ShapeNode
		want int
	}{{s, shape(1, 1, 0, 0), api.Sat}, {s, shape(1, 1, 2, 1, 0, 0), api.Unsat}, {s, shape(3, 2, 2, 1, 0, 0, 2, 1, 0, 0), api.Sat}, {s, shape(3, 2, 0, 0, 2, 1, 0, 0), api.Unsat}, {s, shape(2, 1, 0, 0), api.Unsat}, {other, shape(1, 2, 0, 0, 0, 0), api.Sat}, {other, shape(2, 1, 0, 0), api.Sat}} {
		r, e := Refine(c.s, empty(c.s), c.l, 30)
		if e != api.OK || r.Answer != c.want {
			t.Error(i, r.Answer, e)
			continue
		}
		parts, _ := Parts(c.s, c.l)
		var all []api.Term
		for _, p := range parts {
			all = append(all, p.F)
		}
		if a, _ := smt.Solve(tree.And(all...), 30); (a.Answer == api.Sat) != (c.want == api.Unsat) {
			t.Error(i, "P40.4")
		}
		if r.Answer == api.Unsat && certificate.CheckTree(c.s, r.Tree) != api.OK {
			t.Error(i, "tree")
		}
		if r.Answer == api.Sat {
			if a, e := predabs.Possible(c.s, r.Bases, c.l, true, 30); a == api.Sat || e != api.OK {
				t.Error(i, "possible", a, e)
			}
			if a, e := predabs.Possible(c.s, empty(c.s), c.l, true, 30); a != api.Sat || e != api.OK {
				t.Error(i, "possible before", a, e)
			}
		}
	}
	r, _ := Refine(s, empty(s), shape(1, 1, 0, 0), 30)
	if len(r.Bases) != 1 || len(r.Bases[0].Preds) == 0 || r.Bases[0].Params[0].Name != "z0" {
		t.Error(r.Bases)
	}
	full := empty(s)
	for i := range api.MaxBasis {
		full[0].Preds = append(full[0].Preds, tree.Eq(tree.Var("z0", 2), tree.Num(strings.Repeat("9", i+3), 2)))
	}
	if r, e := Refine(s, full, shape(1, 1, 0, 0), 30); e != api.OK || r.Answer != api.Unknown {
		t.Error(r, e)
	}
	for i, c := range []struct {
		bases  []api.Basis
		l      []api.ShapeNode
		budget int
	}{{nil, shape(1, 1, 0, 0), 5}, {empty(s), shape(1, 1, 0, 0), -1}, {empty(s), nil, 5}} {
		if _, e := Refine(s, c.bases, c.l, c.budget); e != api.ErrInvalid {
			t.Error(i, e)
		}
	}
}
