package mbpint

import (
	"math/rand"
	"slices"
	"strconv"
	"strings"
	"testing"

	"chcsolver/api"
	"chcsolver/subst"
	"chcsolver/term"
	"chcsolver/tree"
	"chcsolver/value"
)

const sort = api.SortInt

var vars = []api.Var{{Name: "x", Sort: sort}, {Name: "y", Sort: sort}, {Name: "z", Sort: sort}, {Name: "w", Sort: sort}, {Name: "p", Sort: 1}, {Name: "i", Sort: 3}}

func tm(s string) api.Term {
	t, _, e := term.Parse(s, vars, nil)
	if e != api.OK {
		panic(s)
	}
	return t
}

func num(s string) api.Value { return api.Value{Sort: sort, Num: s} }

func bind(l ...string) []api.Binding {
	var env []api.Binding
	for i := 0; i < len(l); i += 2 {
		env = append(env, api.Binding{Name: l[i], Value: num(l[i+1])})
	}
	return env
}

func TestP331Errors(t *testing.T) {
	env := bind("x", "1", "y", "2")
	for i, c := range []struct {
		l    []api.Term
		vars []string
		env  []api.Binding
		e    api.Errno
	}{
		{[]api.Term{tm("p")}, nil, env, api.ErrInvalid}, {[]api.Term{nil}, nil, env, api.ErrInvalid}, {[]api.Term{tm("(< i 1.0)")}, nil, env, api.ErrInvalid}, {[]api.Term{tm("(not (not (< x y)))")}, nil, env, api.ErrInvalid}, {[]api.Term{tm("(< (ite p x y) y)")}, nil, env, api.ErrInvalid}, {nil, []string{"x", "x"}, env, api.ErrInvalid}, {nil, []string{"1"}, env, api.ErrInvalid}, {slices.Repeat([]api.Term{tm("(< x y)")}, 61), nil, env, api.ErrInvalid},
		{[]api.Term{tm("(< y x)"), tm("(< x z)")}, nil, env, api.ErrUnbound}, {[]api.Term{tm("(< y x)")}, []string{"x"}, env, api.ErrForm}, {[]api.Term{tm("(< x y)")}, []string{"x"}, env, api.OK}, {nil, []string{"x"}, nil, api.OK},
	} {
		p, e := Project(c.l, c.vars, c.env)
		if e != c.e || e == api.OK && len(p.Witness) != len(c.vars) {
			t.Error(i, e)
		}
	}
}

func TestP331Project(t *testing.T) {
	p, e := Project([]api.Term{tm("(= (* 2 y) x)")}, []string{"y", "u"}, bind("x", "4", "y", "2"))
	if e != api.OK || term.Format(p.G) != "(and (= (mod x 2) 0))" || term.Format(p.Witness[0].Term) != "(div x 2)" || p.Witness[1].Name != "u" || term.Format(p.Witness[1].Term) != "0" {
		t.Error(term.Format(p.G), p.Witness, e)
	}
	p, e = Project([]api.Term{tm("(= (mod y 3) 7)")}, []string{"y"}, bind("y", "2"))
	if e != api.ErrForm {
		t.Error(p, e)
	}
	p, e = Project([]api.Term{tm("(not (= (mod y 3) 7))")}, []string{"y"}, bind("y", "2"))
	if e != api.OK || term.Format(p.G) != "(and)" {
		t.Error(p, e)
	}
}

func checkProject(t *testing.T, l []api.Term, names []string, env []api.Binding, results map[string]bool, point func() []api.Binding) {
	t.Helper()
	p, e := Project(l, names, env)
	if e != api.OK || !value.Holds(p.G, env, nil) {
		t.Fatal(e, term.Format(p.G))
	}
	var known []string
	for _, k := range l {
		known = append(known, tree.Names(tree.Vars(k))...)
	}
	for _, f := range append([]api.Term{p.G}, p.Witness[0].Term, p.Witness[1].Term) {
		for _, v := range tree.Vars(f) {
			if slices.Contains(names, v.Name) || !slices.Contains(known, v.Name) {
				t.Fatal("variable", v.Name)
			}
		}
	}
	results[term.Format(p.G)] = true
	whole, e := subst.Apply(tree.Implies(p.G, tree.And(l...)), p.Witness)
	if e != api.OK {
		t.Fatal(e)
	}
	for range 8 {
		if at := point(); !value.Holds(whole, at, nil) {
			t.Fatal(term.Format(whole), at)
		}
	}
}

func TestP331P334Random(t *testing.T) {
	r := rand.New(rand.NewSource(15))
	n := func() string { return strconv.Itoa(r.Intn(9) - 4) }
	point := func() []api.Binding { return bind("x", n(), "y", n(), "z", n(), "w", n()) }
	real := func(s string) string { return term.Format(tree.Num(s, sort)) }
	for range 200 {
		var l []api.Term
		for range 1 + r.Intn(6) {
			side := func() string {
				return "(+ (* " + real(n()) + " " + []string{"x", "y"}[r.Intn(2)] + ") (* " + real(n()) + " " + []string{"y", "z", "w"}[r.Intn(3)] + ") " + real(n()) + ")"
			}
			s := "(" + []string{"<", "<=", "="}[r.Intn(3)] + " " + side() + " " + side() + ")"
			if r.Intn(4) == 0 {
				s = "(= (mod " + side() + " " + strconv.Itoa(2+r.Intn(3)) + ") " + strconv.Itoa(r.Intn(3)) + ")"
			}
			if r.Intn(4) == 0 {
				s = "(not " + s + ")"
			}
			l = append(l, tm(s))
		}
		results := map[string]bool{}
		for range 8 {
			env := point()
			var own []api.Term
			for _, k := range l {
				if value.Holds(k, env, nil) {
					own = append(own, k)
				} else {
					own = append(own, tree.Not(k))
				}
				if own[len(own)-1][1].Op == api.OpNot {
					own[len(own)-1] = own[len(own)-1][2:]
				}
			}
			checkProject(t, own, []string{"x", "y"}, env, results, point)
		}
	}
	results := map[string]bool{}
	l := []api.Term{tm("(< x y)"), tm("(<= z x)"), tm("(< w x)"), tm("(not (= x 3))"), tm("(< x 9)"), tm("(= (mod x 2) 1)")}
	for range 800 {
		if env := point(); value.Holds(tree.And(l...), env, nil) {
			checkProject(t, l, []string{"x", "u"}, env, results, point)
		}
	}
	if len(results) == 0 || len(results) > 80 {
		t.Error(len(results))
	}
}

func TestP332P333Errors(t *testing.T) {
	for i, c := range []struct {
		f    api.Term
		vars []string
		e    api.Errno
	}{{tm("x"), nil, api.ErrInvalid}, {nil, nil, api.ErrInvalid}, {tm("p"), []string{"x", "x"}, api.ErrInvalid}, {tm("p"), []string{"and"}, api.ErrInvalid}, {tm("p"), []string{"p"}, api.ErrForm}, {tm("(< i 1.0)"), []string{"i"}, api.ErrForm}, {tm("(< (ite p x y) 1)"), nil, api.ErrForm}, {tm("(< (ite (< x 1) i 2.0) 1.0)"), []string{"x"}, api.ErrForm}, {tm("(< (ite (< x 1) i 2.0) 1.0)"), []string{"y"}, api.OK}} {
		_, e := Eliminate(c.f, c.vars)
		if _, e2 := Pick(c.f, c.vars, []api.Binding{{Name: "i", Value: api.Value{Sort: 3, Num: "0"}}, {Name: "x", Value: num("0")}}); e != c.e || e2 != c.e {
			t.Error(i, e, e2)
		}
	}
	if _, e := Pick(tm("(< x y)"), []string{"x"}, nil); e != api.OK {
		t.Error(e)
	}
	if _, e := Pick(tm("(and (< x y) (< z x))"), []string{"x"}, nil); e != api.ErrUnbound {
		t.Error(e)
	}
	if _, e := Pick(tm("(and (< x y) (< z x))"), []string{"x"}, bind("y", "1", "z", "2")); e != api.ErrForm {
		t.Error(e)
	}
	var wide []api.Term
	for i := range 200 {
		wide = append(wide, tm("(or (< x (+ w (* "+strconv.Itoa(i+2)+" y))) (< x (+ z (* "+strconv.Itoa(i+2)+" y))))"), tm("(or (< (+ y (* "+strconv.Itoa(i+2)+" z)) x) (< (+ w (* "+strconv.Itoa(i+2)+" z)) x))"))
	}
	wide = append(wide, tm("(< x y)"))
	if _, e := Eliminate(tree.And(wide...), []string{"x"}); e != api.ErrLimit {
		t.Error(e)
	}
}

func formula(r *rand.Rand, d int) string {
	if d == 0 {
		n := func() string { return strconv.Itoa(r.Intn(3) + 1) }
		side := func() string {
			return "(+ (* " + n() + " x) (* " + n() + " " + []string{"y", "z"}[r.Intn(2)] + ") " + n() + ")"
		}
		if r.Intn(2) == 0 {
			side2 := side()
			return "(" + []string{"<", "<=", "="}[r.Intn(3)] + " " + strings.ReplaceAll(side(), "x", "z") + " " + side2 + ")"
		}
		return []string{"p", "(= x 1)", "(< y x)", "(< x " + n() + ")", "(= i 1.0)", "(= (mod " + side() + " 2) 1)", "(< (div x 2) y)", "(< (mod y 3) 2)", "(= " + side() + " " + side() + ")"}[r.Intn(9)]
	}
	a, b := formula(r, d-1), formula(r, r.Intn(d))
	return []string{"(and " + a + " " + b + ")", "(or " + a + " " + b + ")", "(not " + a + ")", "(= " + a + " " + b + ")", "(ite " + a + " " + b + " p)", "(=> " + a + " " + b + ")"}[r.Intn(6)]
}

func TestP332P333Random(t *testing.T) {
	r := rand.New(rand.NewSource(16))
	n := func() string { return strconv.Itoa(r.Intn(15) - 7) }
	for range 150 {
		f := tm(formula(r, r.Intn(3)))
		names := []string{"x", "y"}[:1+r.Intn(2)]
		g, e := Eliminate(f, names)
		if e == api.ErrLimit {
			continue
		}
		if e != api.OK {
			t.Fatal(term.Format(f), e)
		}
		for _, v := range tree.Vars(g) {
			if slices.Contains(names, v.Name) {
				t.Fatal(term.Format(g))
			}
		}
		for range 5 {
			env := append(bind("x", n(), "y", n(), "z", n()), api.Binding{Name: "p", Value: api.Value{Sort: 1, Bool: r.Intn(2) == 0}}, api.Binding{Name: "i", Value: api.Value{Sort: 3, Num: "1"}})
			is := value.Holds(g, env, nil)
			picked, e := Pick(f, names, env)
			if value.Holds(f, env, nil) && !is || is != (e == api.OK) {
				t.Fatal(term.Format(f), term.Format(g), env, e)
			}
			if is && (len(picked) != len(names) || !value.Holds(f, append(picked, env...), nil)) {
				t.Fatal(term.Format(f), env, picked)
			}
		}
	}
}
