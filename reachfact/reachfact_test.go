package reachfact

import (
	"slices"
	"strconv"
	"testing"

	"chcsolver/api"
	"chcsolver/certificate"
	"chcsolver/system"
	"chcsolver/term"
	"chcsolver/tree"
	"chcsolver/value"
)

func parse(t *testing.T, src string) api.System {
	t.Helper()
	s, at, e := system.Parse(src)
	if e != api.OK {
		t.Fatal(src, at, e)
	}
	return s
}

const text = `(declare-fun P (Int) Bool)(declare-fun Q (Int Bool (Array Int Int)) Bool)
(assert (forall ((x Int)) (=> (> x 3) (P x))))
(assert (forall ((x Int) (y Int) (unused Real)) (=> (and (P x) (= y (div x 2)) (< x 90)) (P (ite (< y 5) y (+ x 1))))))
(assert (forall ((x Int) (a (Array Int Int)) (b Bool)) (=> (and (P x) (P (select a x)) (or b (< x 7))) (Q (mod x 3) b (store a x 1)))))
(assert (forall ((x Int) (a (Array Int Int)) (b Bool)) (=> (and (Q x b a) (= (select a 4) 1)) false)))
(assert (forall ((p Bool) (a (Array Int Int)) (c (Array Int Int))) (Q 0 p (ite p a c))))`

func num(n int) api.Value { return api.Value{Sort: 2, Num: strconv.Itoa(n)} }

func env(l ...any) []api.Binding {
	var out []api.Binding
	for i := 0; i < len(l); i += 2 {
		var v api.Value
		switch x := l[i+1].(type) {
		case int:
			v = num(x)
		case bool:
			v = api.Value{Sort: 1, Bool: x}
		case api.Value:
			v = x
		}
		out = append(out, api.Binding{Name: l[i].(string), Value: v})
	}
	return out
}

func array(other int, l ...int) api.Value {
	v := api.Value{Sort: 4, Num: strconv.Itoa(other)}
	for k := 0; k < len(l); k += 2 {
		v, _ = value.Store(v, strconv.Itoa(l[k]), strconv.Itoa(l[k+1]))
	}
	return v
}

func TestP371Make(t *testing.T) {
	s := parse(t, text)
	r, e := Make(s, nil, 0, nil, env("x", 5))
	if e != api.OK || r.Def.Pred != "P" || len(r.Def.Params) != 1 || term.Format(r.Witness[0].Term) != r.Def.Params[0].Name {
		t.Fatal(r, e)
	}
	for n := -3; n < 9; n++ {
		if value.Holds(r.Def.Body, bind(r.Def.Params, []api.Value{num(n)}), nil) != (n > 3) {
			t.Error(n, term.Format(r.Def.Body))
		}
	}
	l := []api.ReachFact{r}
	for i, c := range []struct {
		s      api.System
		clause int
		kids   []int
		env    []api.Binding
		e      api.Errno
	}{
		{api.System{Preds: []api.Func{{}}}, 0, nil, nil, api.ErrInvalid}, {s, 9, nil, nil, api.ErrInvalid}, {s, -1, nil, nil, api.ErrInvalid}, {s, 0, []int{0}, nil, api.ErrInvalid}, {s, 1, nil, nil, api.ErrInvalid}, {s, 1, []int{1}, nil, api.ErrInvalid}, {s, 3, []int{0}, nil, api.ErrInvalid}, {s, 0, nil, nil, api.ErrUnbound}, {s, 0, nil, env("x", true), api.ErrSort}, {s, 0, nil, env("x", 3), api.ErrForm}, {s, 1, []int{0}, env("x", 2, "y", 1), api.ErrForm}, {s, 1, []int{0}, env("x", 9, "y", 4), api.OK}, {s, 1, []int{0}, env("x", 9), api.ErrUnbound},
	} {
		if _, e := Make(c.s, l, c.clause, c.kids, c.env); e != c.e {
			t.Error(i, e)
		}
	}
}

// chain makes reach facts for the example and checks that all facts that they describe have trees.
func TestP371P373P374Chain(t *testing.T) {
	s := parse(t, text)
	var l []api.ReachFact
	add := func(clause int, kids []int, env []api.Binding) {
		t.Helper()
		r, e := Make(s, l, clause, kids, env)
		if e != api.OK {
			t.Fatal(clause, e)
		}
		l = append(l, r)
		args, _ := evaluate(s.Clauses[clause].Head.Args, env)
		if !describes(r, args) {
			t.Fatal("its own instance", term.Format(r.Def.Body))
		}
		d, e := Tree(s, l, len(l)-1, args)
		if e != api.OK || certificate.CheckTree(s, d) != api.OK {
			t.Fatal(clause, e)
		}
	}
	add(0, nil, env("x", 5))
	add(1, []int{0}, env("x", 9, "y", 4))
	add(1, []int{0}, env("x", 40, "y", 20))
	add(1, []int{1}, env("x", 2, "y", 1))
	a := array(7, 4, 6)
	add(2, []int{0, 0}, env("x", 4, "a", a, "b", true))
	add(2, []int{1, 0}, env("x", 3, "a", a, "b", false))
	add(3, []int{4}, env("x", 1, "b", true, "a", array(7, 4, 1)))
	add(4, nil, env("p", true, "a", array(1, 2, 3), "c", array(0)))
	if !certificate.Refutes(s, mustTree(t, s, l, 6, nil)) {
		t.Error("no refutation")
	}
	found := 0
	for k, r := range l {
		for n := -2; n < 45; n++ {
			for _, other := range [][]api.Value{{num(n)}, {num(n), {Sort: 1, Bool: n%2 == 0}, array(7, 4, 1)}, {num(n), {Sort: 1}, array(7, 3, 1, 4, 6)}, nil} {
				if len(other) != len(r.Def.Params) || !describes(r, other) {
					continue
				}
				found++
				d, e := Tree(s, l, k, other)
				if e != api.OK || certificate.CheckTree(s, d) != api.OK {
					t.Fatal(k, other, e, term.Format(r.Def.Body))
				}
			}
		}
	}
	if found < 60 {
		t.Error(found)
	}
}

func mustTree(t *testing.T, s api.System, l []api.ReachFact, k int, args []api.Value) api.Tree {
	t.Helper()
	d, e := Tree(s, l, k, args)
	if e != api.OK {
		t.Fatal(e)
	}
	return d
}

func TestP372Covers(t *testing.T) {
	s := parse(t, text)
	r, _ := Make(s, nil, 0, nil, env("x", 5))
	q := r
	q.Def = tree.CloneDef(r.Def)
	q.Def.Pred = "Q"
	l := []api.ReachFact{q, r, r}
	for n, want := range map[int]int{5: 1, 3: -1} {
		if got := Covers(l, api.Fact{Pred: "P", Args: []api.Value{num(n)}}); got != want {
			t.Error(n, got)
		}
	}
	if Covers(l, api.Fact{Pred: "P"}) != -1 || Covers(l, api.Fact{Pred: "Z", Args: []api.Value{num(5)}}) != -1 || Covers(nil, api.Fact{}) != -1 {
		t.Error("Covers")
	}
}

func TestP373Errors(t *testing.T) {
	s := parse(t, text)
	r, _ := Make(s, nil, 0, nil, env("x", 5))
	l := []api.ReachFact{r}
	two, _ := Make(s, l, 1, []int{0}, env("x", 9, "y", 4))
	l = append(l, two)
	endless := slices.Clone(l)
	endless[1].Kids = []int{1}
	endless[1].Def = tree.CloneDef(endless[1].Def)
	endless[1].Def.Body = tree.True()
	wrong := slices.Clone(l)
	wrong[0].Witness = []api.Sub{{Name: "x", Term: tree.Num("1", 2)}}
	bad := slices.Clone(l)
	bad[1].Kids = []int{7}
	for i, c := range []struct {
		s    api.System
		l    []api.ReachFact
		k    int
		args []api.Value
		e    api.Errno
	}{{api.System{Preds: []api.Func{{}}}, l, 0, nil, api.ErrInvalid}, {s, l, 2, nil, api.ErrInvalid}, {s, l, -1, nil, api.ErrInvalid}, {s, l, 0, nil, api.ErrForm}, {s, l, 0, []api.Value{num(3)}, api.ErrForm}, {s, l, 0, []api.Value{{Sort: 3, Num: "5"}}, api.ErrForm}, {s, wrong, 0, []api.Value{num(5)}, api.ErrForm}, {s, bad, 1, []api.Value{num(4)}, api.ErrForm}, {s, endless, 1, []api.Value{num(4)}, api.ErrLimit}, {s, l, 1, []api.Value{num(4)}, api.OK}} {
		if d, e := Tree(c.s, c.l, c.k, c.args); e != c.e || e != api.OK && d != nil {
			t.Error(i, e)
		}
	}
}
