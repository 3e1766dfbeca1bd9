package cnf

import (
	"math/rand"
	"reflect"
	"slices"
	"strings"
	"testing"

	"chcsolver/api"
	"chcsolver/term"
	"chcsolver/tree"
	"chcsolver/value"
)

var vars = []api.Var{{Name: "p", Sort: 1}, {Name: "q", Sort: 1}, {Name: "r", Sort: 1}, {Name: "x", Sort: 2}}

func tm(s string) api.Term {
	t, _, e := term.Parse(s, vars, nil)
	if e != api.OK {
		panic(s)
	}
	return t
}

func TestP241Of(t *testing.T) {
	for s, want := range map[string][][]int{
		"(or p (not q))": {{1, -2}, {1, 3}, {-1, 2, -3}, {1}}, "p": {{1}}, "(not (not p))": {{1}}, "(not p)": {{-1}}, "true": {{1}, {1}}, "false": {{-1}, {1}}, "(and p p)": {{-1, 2}, {-1, 2}, {1, -2, -2}, {1}}, "(and)": {{1}, {1}}, "(=> p q)": {{1, 2}, {1, -3}, {-1, -2, 3}, {1}},
		"(= p q)": {{-1, -2, 3}, {-1, 2, -3}, {1, 2, 3}, {1, -2, -3}, {1}}, "(ite p q (not r))": {{-1, -2, 3}, {-1, 2, -4}, {1, -2, -3}, {1, 2, 4}, {1}}, "(= x 1)": {{1}}, "(and (or p q) (not (or p q)))": {{-1, 2}, {-1, -2}, {1, -2, 2}, {2, -3}, {2, -4}, {-2, 3, 4}, {1}},
	} {
		c, e := Of(tm(s))
		if e != api.OK || !reflect.DeepEqual(c.Clauses, want) {
			t.Error(s, c, e)
		}
	}
	c, _ := Of(tm("(=> (< (ite p x 1) 2) (and q true))"))
	if c.Vars != 5 || len(c.Atoms) != 2 || c.Atoms[0].Var != 2 || c.Atoms[1].Var != 4 || term.Format(c.Atoms[1].Term) != "q" {
		t.Error(c)
	}
	var wide []api.Term
	for i := range 999 {
		wide = append(wide, tree.Eq(tree.Var("x", 2), tree.Num(strings.Repeat("1", 1+i/9)+string(rune('1'+i%9)), 2)))
	}
	if c, e := Of(tree.And(wide...)); e != api.OK || c.Vars != 1000 {
		t.Error(e)
	}
	if _, e := Of(tree.Or(tree.And(wide...), tree.True())); e != api.ErrLimit {
		t.Error(e)
	}
	if _, e := Of(tree.And(slices.Repeat([]api.Term{tm("p")}, 9998)...)); e != api.OK {
		t.Error(e)
	}
	if _, e := Of(tree.And(slices.Repeat([]api.Term{tm("p")}, 9999)...)); e != api.ErrLimit {
		t.Error(e)
	}
	for _, f := range []api.Term{nil, tm("x"), tree.Node(api.Node{Op: api.OpApply, Sort: 1, Name: "f"}, tm("p"))} {
		_, e := Of(f)
		_, e2 := Extend(f, nil)
		if _, e3 := Values(f, nil); e != api.ErrInvalid || e2 != e || e3 != e {
			t.Error(e)
		}
	}
}

func TestP242Holds(t *testing.T) {
	c := api.Cnf{Vars: 2, Clauses: [][]int{{1, -2}, {2}}}
	for i, want := range []bool{false, false, false, true} {
		if Holds(c, []bool{i&1 > 0, i&2 > 0}) != want {
			t.Error(i)
		}
	}
	for _, clauses := range [][][]int{{{0, 1}}, {{1}, {3}}, {{-3, 1}}, {{}}, {{1, -1 << 63}}} {
		if Holds(api.Cnf{Vars: 2, Clauses: clauses}, []bool{true, true}) {
			t.Error(clauses)
		}
	}
	if Holds(c, []bool{true}) || !Holds(api.Cnf{}, nil) {
		t.Error("lengths")
	}
}

func formula(r *rand.Rand, d int) string {
	if d == 0 {
		return []string{"p", "q", "r", "true", "false", "(< x 2)"}[r.Intn(6)]
	}
	a, b := formula(r, d-1), formula(r, r.Intn(d))
	return []string{"(and " + a + " " + b + " p)", "(or " + a + " " + b + ")", "(not " + a + ")", "(=> " + a + " " + b + ")", "(= " + a + " " + b + ")", "(ite " + a + " " + b + " q)"}[r.Intn(6)]
}

func TestP243P244P245Extend(t *testing.T) {
	r := rand.New(rand.NewSource(7))
	for range 400 {
		f := tm(formula(r, r.Intn(4)))
		c, _ := Of(f)
		env := []api.Binding{{Name: "x", Value: api.Value{Sort: 2, Num: "1"}}}
		for _, name := range []string{"p", "q", "r"} {
			env = append(env, api.Binding{Name: name, Value: api.Value{Sort: 1, Bool: r.Intn(2) == 0}})
		}
		vals, e := Values(f, env)
		if e != api.OK || Holds(c, vals) != value.Holds(f, env, nil) {
			t.Fatal(term.Format(f), e)
		}
		var atoms []bool
		for _, a := range c.Atoms {
			atoms = append(atoms, vals[a.Var-1])
		}
		if x, e := Extend(f, atoms); e != api.OK || !slices.Equal(x, vals) {
			t.Fatal(term.Format(f))
		}
		if c.Vars > 10 {
			continue
		}
		most := api.Cnf{Vars: c.Vars, Clauses: c.Clauses[:len(c.Clauses)-1]}
		for i := range 1 << c.Vars {
			all := make([]bool, c.Vars)
			for k := range all {
				all[k] = i>>k&1 > 0
			}
			for k, a := range c.Atoms {
				atoms[k] = all[a.Var-1]
			}
			if x, _ := Extend(f, atoms); Holds(most, all) != slices.Equal(x, all) {
				t.Fatal(term.Format(f), all)
			}
		}
	}
	if _, e := Extend(tm("(and p q)"), []bool{true}); e != api.ErrForm {
		t.Error(e)
	}
	if _, e := Values(tm("(and p q)"), nil); e != api.ErrUnbound {
		t.Error(e)
	}
}
