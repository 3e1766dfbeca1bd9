package linear

import (
	"math/rand"
	"reflect"
	"strconv"
	"strings"
	"testing"

	"chcsolver/api"
	"chcsolver/number"
	"chcsolver/term"
	"chcsolver/value"
)

var vars = []api.Var{{Name: "x", Sort: api.SortInt}, {Name: "y", Sort: api.SortInt}, {Name: "p", Sort: api.SortBool}, {Name: "r", Sort: api.SortReal}, {Name: "s", Sort: api.SortReal}, {Name: "a", Sort: api.SortArray}}

func tm(s string) api.Term {
	t, _, e := term.Parse(s, vars, nil)
	if e != api.OK {
		panic(s)
	}
	return t
}

// lin makes an expression: its constant, and then names and numbers.
func lin(sort int, l ...string) api.Linear {
	e := api.Linear{Sort: sort, Const: l[0]}
	for i := 1; i < len(l); i += 2 {
		e.Coefs = append(e.Coefs, api.Coef{Name: l[i], Num: l[i+1]})
	}
	return e
}

func text(l api.Linear) string {
	s := []string{l.Const}
	for _, c := range l.Coefs {
		s = append(s, c.Name, c.Num)
	}
	return strings.Join(s, " ")
}

const i, r = api.SortInt, api.SortReal

func bind(name, num string) api.Binding {
	return api.Binding{Name: name, Value: api.Value{Sort: i, Num: num}}
}

func TestP61Of(t *testing.T) {
	for s, want := range map[string]string{"(+ x (* 3 (+ y x (- 2))) 5)": "-1 x 4 y 3", "(- x x)": "0", "7": "7", "(- r (* 1.5 s))": "0 r 1 s -3/2"} {
		if l, e := Of(tm(s)); e != api.OK || text(l) != want || !Valid(l) {
			t.Error(s, e, text(l))
		}
	}
	for s, want := range map[string]api.Errno{"p": api.ErrSort, "a": api.ErrSort, "(div x 2)": api.ErrForm, "(+ x (select a x))": api.ErrForm, "(ite p x y)": api.ErrForm} {
		if _, e := Of(tm(s)); e != want {
			t.Error(s, e)
		}
	}
	if _, e := Of(nil); e != api.ErrInvalid {
		t.Error(e)
	}
	for n, l := range []api.Linear{lin(1, "0"), lin(i, ""), lin(i, "2/4"), lin(i, "0", "x", "0"), lin(i, "0", "x", "a"), lin(i, "0", "y", "1", "x", "1"), lin(i, "0", "x", "1", "x", "1"), lin(i, "0", "and", "1")} {
		if Valid(l) || ValidConstraint(api.Constraint{Rel: 1, Lin: l}) {
			t.Error(n)
		}
	}
	if !Valid(lin(i, "1/2", "x", "1/3")) {
		t.Error("fractions are permitted")
	}
}

func TestP62Term(t *testing.T) {
	for s, l := range map[string]api.Linear{"0": lin(i, "0"), "x": lin(i, "0", "x", "1"), "(* (- 2) x)": lin(i, "0", "x", "-2"), "(+ x (* 2 y) (- 3))": lin(i, "-3", "x", "1", "y", "2"), "(/ 1.0 2.0)": lin(r, "1/2")} {
		if f, e := Term(l); e != api.OK || term.Format(f) != s {
			t.Error(s, e)
		}
	}
	if _, e := Term(lin(i, "1/2")); e != api.ErrForm {
		t.Error(e)
	}
	if _, e := Term(lin(i, "0", "x", "1/2")); e != api.ErrForm {
		t.Error(e)
	}
	if _, e := Term(lin(5, "0")); e != api.ErrInvalid {
		t.Error(e)
	}
	big := lin(i, "0")
	for k := range 7000 {
		big.Coefs = append(big.Coefs, api.Coef{Name: "v" + strconv.Itoa(10000+k), Num: "2"})
	}
	if _, e := Term(big); e != api.ErrLimit {
		t.Error(e)
	}
	if _, e := Formula(api.Constraint{Rel: api.RelLe, Lin: api.Linear{Sort: i, Const: "0", Coefs: big.Coefs[:6666]}}); e != api.ErrLimit {
		t.Error(e)
	}
}

func TestP63Arithmetic(t *testing.T) {
	a, b := lin(i, "1", "x", "1", "z", "2"), lin(i, "1/2", "w", "3", "x", "-1")
	if l, e := Add(a, b); e != api.OK || text(l) != "3/2 w 3 z 2" {
		t.Error(text(l), e)
	}
	if l, e := Scale(a, "-1/2"); e != api.OK || text(l) != "-1/2 x -1/2 z -1" {
		t.Error(text(l), e)
	}
	if l, e := Scale(a, "0"); e != api.OK || text(l) != "0" {
		t.Error(text(l), e)
	}
	if l, e := Replace(a, "z", lin(i, "1", "x", "-1/2")); e != api.OK || text(l) != "3" {
		t.Error(text(l), e)
	}
	if l, e := Replace(a, "q", b); e != api.OK || text(l) != text(a) {
		t.Error(text(l), e)
	}
	if _, e := Add(a, lin(r, "0")); e != api.ErrSort {
		t.Error(e)
	}
	if _, e := Add(a, lin(r, "")); e != api.ErrInvalid {
		t.Error(e)
	}
	if _, e := Scale(a, "x"); e != api.ErrInvalid {
		t.Error(e)
	}
	if _, e := Replace(a, "1", b); e != api.ErrInvalid {
		t.Error(e)
	}
	if _, e := Replace(a, "q", lin(r, "0")); e != api.ErrSort {
		t.Error(e)
	}
}

func TestP64Eval(t *testing.T) {
	a := lin(i, "1", "x", "1/2", "z", "2")
	if v, e := Eval(a, []api.Binding{bind("z", "-1"), bind("x", "3"), bind("x", "8")}); v != "1/2" || e != api.OK {
		t.Error(v, e)
	}
	real := api.Binding{Name: "x", Value: api.Value{Sort: r, Num: "1"}}
	for n, c := range []struct {
		env []api.Binding
		e   api.Errno
	}{{nil, api.ErrUnbound}, {[]api.Binding{real}, api.ErrSort}, {[]api.Binding{bind("z", "1"), {}}, api.ErrInvalid}, {[]api.Binding{bind("x", "1")}, api.ErrUnbound}} {
		_, e := Eval(a, c.env)
		_, e2 := Holds(api.Constraint{Rel: api.RelLe, Lin: a}, c.env)
		if e != c.e || e2 != c.e {
			t.Error(n, e, e2)
		}
	}
}

func TestP65Normal(t *testing.T) {
	con := func(rel int, mod string, l api.Linear) api.Constraint {
		return api.Constraint{Rel: rel, Lin: l, Mod: mod}
	}
	le, lt, eq, d, nd := api.RelLe, api.RelLt, api.RelEq, api.RelDivides, api.RelNotDivides
	for n, c := range []struct{ c, want api.Constraint }{
		{con(le, "", lin(i, "3", "x", "2", "y", "4")), con(le, "", lin(i, "2", "x", "1", "y", "2"))}, {con(le, "", lin(r, "3", "x", "2", "y", "4")), con(le, "", lin(r, "3/2", "x", "1", "y", "2"))}, {con(lt, "", lin(i, "3", "x", "-2")), con(le, "", lin(i, "2", "x", "-1"))},
		{con(lt, "", lin(i, "2", "x", "2")), con(le, "", lin(i, "2", "x", "1"))}, {con(lt, "", lin(r, "2", "x", "1/2")), con(lt, "", lin(r, "4", "x", "1"))}, {con(eq, "", lin(i, "2", "x", "-2", "y", "4")), con(eq, "", lin(i, "-1", "x", "1", "y", "-2"))}, {con(eq, "", lin(i, "1", "x", "2")), con(lt, "", lin(i, "0"))},
		{con(eq, "", lin(r, "1", "x", "-2")), con(eq, "", lin(r, "-1/2", "x", "1"))}, {con(le, "", lin(r, "0")), con(le, "", lin(r, "0"))}, {con(lt, "", lin(r, "-1")), con(le, "", lin(r, "0"))}, {con(eq, "", lin(i, "1/2")), con(lt, "", lin(i, "0"))},
		{con(d, "4", lin(i, "2", "x", "6")), con(d, "2", lin(i, "1", "x", "1"))}, {con(d, "4", lin(i, "1", "x", "2")), con(lt, "", lin(i, "0"))}, {con(nd, "4", lin(i, "1", "x", "2")), con(le, "", lin(i, "0"))}, {con(d, "3", lin(i, "7", "x", "-1", "y", "3")), con(d, "3", lin(i, "1", "x", "2"))}, {con(d, "2", lin(i, "1/2", "x", "1")), con(lt, "", lin(i, "0"))},
		{con(d, "2", lin(i, "4")), con(le, "", lin(i, "0"))}, {con(nd, "2", lin(i, "4", "x", "6")), con(lt, "", lin(i, "0"))}, {con(d, "1", lin(i, "0", "x", "1/2")), con(d, "2", lin(i, "0", "x", "1"))},
	} {
		got, e := Normal(c.c)
		if e != api.OK || !reflect.DeepEqual(got, c.want) {
			t.Error(n, e, got)
		}
		if again, e := Normal(got); e != api.OK || !reflect.DeepEqual(again, got) {
			t.Error(n, "not idempotent", again)
		}
	}
	for n, c := range []api.Constraint{con(0, "", lin(i, "0")), con(le, "1", lin(i, "0")), con(d, "0", lin(i, "0")), con(d, "", lin(i, "0")), con(d, "2", lin(r, "0")), con(nd, "1/2", lin(i, "0"))} {
		_, e := Normal(c)
		_, e2 := Negate(c)
		_, e3 := Formula(c)
		_, e4 := Solve(c, "x")
		_, e5 := Holds(c, nil)
		if ValidConstraint(c) || e != api.ErrInvalid || e2 != e || e3 != e || e4 != e || e5 != e {
			t.Error(n)
		}
	}
}

// TestP65P66P68Random compares constraints, their normal forms, negations and formulas at random points.
func TestP65P66P68Random(t *testing.T) {
	rnd := rand.New(rand.NewSource(2))
	frac := func() string {
		return number.Div(strconv.Itoa(rnd.Intn(13)-6), strconv.Itoa(1+rnd.Intn(2)*rnd.Intn(4)))
	}
	for range 4000 {
		sort := i + rnd.Intn(2)
		c := api.Constraint{Rel: 1 + rnd.Intn(3), Lin: lin(sort, frac())}
		if sort == i && rnd.Intn(2) == 0 {
			c.Rel, c.Mod = api.RelDivides+rnd.Intn(2), strconv.Itoa(1+rnd.Intn(6))
		}
		for _, v := range []string{"x", "y"} {
			if k := frac(); k != "0" {
				c.Lin.Coefs = append(c.Lin.Coefs, api.Coef{Name: v, Num: k})
			}
		}
		n, _ := Normal(c)
		neg, _ := Negate(c)
		f, formed := Formula(n)
		for range 5 {
			env := []api.Binding{bind("x", strconv.Itoa(rnd.Intn(15)-7)), bind("y", strconv.Itoa(rnd.Intn(15)-7))}
			env[0].Value.Sort, env[1].Value.Sort = sort, sort
			want, e := Holds(c, env)
			same, _ := Holds(n, env)
			not := false
			for _, m := range neg {
				is, _ := Holds(m, env)
				not = not || is
			}
			if e != api.OK || same != want || not == want {
				t.Fatal(c, n, neg, env)
			}
			if formed == api.OK {
				back, e := Atom(f)
				is, _ := Holds(back, env)
				if e != api.OK || is != want || value.Holds(f, env, nil) != want {
					t.Fatal(c, term.Format(f), env)
				}
			}
		}
	}
}

func TestP67Atom(t *testing.T) {
	for s, want := range map[string]string{"(<= x y)": "1 0 x 1 y -1 ", "(< x 1)": "2 -1 x 1 ", "(= x (* 2 y))": "3 0 x 1 y -2 ", "(= r s)": "3 0 r 1 s -1 ", "(= (mod (+ x 1) 3) 2)": "4 -1 x 1 3", "(not (<= x y))": "2 0 x -1 y 1 ", "(not (< x y))": "1 0 x -1 y 1 ", "(not (= (mod x 3) 0))": "5 0 x 1 3"} {
		c, e := Atom(tm(s))
		if got := strconv.Itoa(c.Rel) + " " + text(c.Lin) + " " + c.Mod; e != api.OK || got != want {
			t.Error(s, e, got)
		}
	}
	for _, s := range []string{"p", "x", "(= p p)", "(= a a)", "(= (mod x 3) 3)", "(= (mod x 3) (- 1))", "(= 0 (mod x 3))", "(not (= x y))", "(not p)", "(and)", "(<= (div x 2) 1)", "(not (not (<= x y)))", "(= (mod (div x 2) 2) 0)"} {
		if c, e := Atom(tm(s)); e != api.ErrForm || c.Rel != 0 {
			t.Error(s, e)
		}
	}
	if _, e := Atom(nil); e != api.ErrInvalid {
		t.Error(e)
	}
}

func TestP68Formula(t *testing.T) {
	for s, c := range map[string]api.Constraint{"(<= (+ x 1) 0)": {Rel: 1, Lin: lin(i, "1", "x", "1")}, "(< x 0.0)": {Rel: 2, Lin: lin(r, "0", "x", "1")}, "(= 1 0)": {Rel: 3, Lin: lin(i, "1")}, "(= (mod x 2) 0)": {Rel: 4, Lin: lin(i, "0", "x", "1"), Mod: "2"}, "(not (= (mod x 2) 0))": {Rel: 5, Lin: lin(i, "0", "x", "1"), Mod: "2"}} {
		if f, e := Formula(c); e != api.OK || term.Format(f) != s {
			t.Error(s, e)
		}
	}
	if _, e := Formula(api.Constraint{Rel: 1, Lin: lin(i, "1/2")}); e != api.ErrForm {
		t.Error(e)
	}
}

func TestP69Solve(t *testing.T) {
	c := api.Constraint{Rel: api.RelEq, Lin: lin(i, "4", "x", "-2", "y", "6")}
	if l, e := Solve(c, "x"); e != api.OK || text(l) != "2 y 3" {
		t.Error(text(l), e)
	}
	for n, d := range []struct {
		c    api.Constraint
		name string
		e    api.Errno
	}{{c, "y", api.ErrForm}, {c, "z", api.ErrForm}, {c, "1", api.ErrInvalid}, {api.Constraint{Rel: api.RelLe, Lin: c.Lin}, "x", api.ErrForm}, {api.Constraint{Rel: api.RelEq, Lin: lin(r, "4", "x", "-2", "y", "6")}, "y", api.OK}} {
		if _, e := Solve(d.c, d.name); e != d.e {
			t.Error(n, e)
		}
	}
}
