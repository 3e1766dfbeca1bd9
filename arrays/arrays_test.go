package arrays

import (
	"math/rand"
	"slices"
	"strconv"
	"strings"
	"testing"

	"chcsolver/api"
	"chcsolver/term"
	"chcsolver/tree"
	"chcsolver/value"
)

var vars = []api.Var{{Name: "a", Sort: 4}, {Name: "b", Sort: 4}, {Name: "i", Sort: 2}, {Name: "j", Sort: 2}, {Name: "p", Sort: 1}, {Name: "!i0", Sort: 2}}

func tm(s string) api.Term {
	t, _, e := term.Parse(s, vars, nil)
	if e != api.OK {
		panic(s)
	}
	return t
}

func texts(l []api.Term) string {
	var s []string
	for _, t := range l {
		s = append(s, term.Format(t))
	}
	return strings.Join(s, "; ")
}

func names(r api.Reduction) string {
	var s []string
	for _, n := range r.Names {
		s = append(s, n.Name+":"+strconv.Itoa(n.Kind)+":"+term.Format(n.A)+":"+term.Format(n.B))
	}
	return strings.Join(s, "; ")
}

func TestP291Reduce(t *testing.T) {
	for _, c := range []struct{ f, skeleton, lemmas, names string }{
		{"(= (select a i) 1)", "(= !r0_0 1)", "", "!i0:1:a:; !d0:2:a:; !r0_0:3:a:i"},
		{"(= (select a !i0) 1)", "(= !r0_0 1)", "", "!i0!1:1:a:; !d0:2:a:; !r0_0:3:a:!i0"},
		{"(= a b)", "(= !i0 !i1)", "(or (not (= !i0 !i1)) (= !r0_0 !r1_0)); (or (not (= !i0 !i1)) (= !d0 !d1)); (or (= !i0 !i1) (not (= !r0_0 !r1_0)) (not (= !d0 !d1)))", "!i0:1:a:; !d0:2:a:; !i1:1:b:; !d1:2:b:; !w0:4:a:b; !r0_0:3:a:!w0; !r1_0:3:b:!w0"},
		{"(= (select (store a i 1) j) (select a j))", "(= !r0_0 !r1_0)", "(= !r0_1 1); (or (= i j) (= !r0_0 !r1_0)); (= !d0 !d1); (or (not (= j i)) (= !r0_0 !r0_1)); (or (not (= j i)) (= !r1_0 !r1_1)); (or (not (= !i0 !i1)) (= !r0_0 !r1_0)); (or (not (= !i0 !i1)) (= !r0_1 !r1_1)); (or (not (= !i0 !i1)) (= !d0 !d1))", "!i0:1:(store a i 1):; !d0:2:(store a i 1):; !i1:1:a:; !d1:2:a:; !r0_0:3:(store a i 1):j; !r0_1:3:(store a i 1):i; !r1_0:3:a:j; !r1_1:3:a:i"},
		{"(and p (= (const i) (ite p a (const i))))", "(and p (= !i0 !i1))", "(= !r0_0 i); (= !d0 i); (or (not p) (= !i1 !i2)); (or p (= !i1 !i0)); (or (not (= !i0 !i1)) (= !r0_0 !r1_0)); (or (not (= !i0 !i1)) (= !d0 !d1)); (or (not (= !i0 !i2)) (= !r0_0 !r2_0)); (or (not (= !i0 !i2)) (= !d0 !d2)); (or (not (= !i1 !i2)) (= !r1_0 !r2_0)); (or (not (= !i1 !i2)) (= !d1 !d2)); (or (= !i0 !i1) (not (= !r0_0 !r1_0)) (not (= !d0 !d1)))", ""},
		{"(< (select a (select a i)) 2)", "(< !r0_0 2)", "(or (not (= !r0_1 i)) (= !r0_0 !r0_1))", ""}, {"(= a a)", "(= !i0 !i0)", "", ""}, {"(or (= a b) (= b a))", "(or (= !i0 !i1) (= !i1 !i0))", "(or (not (= !i0 !i1)) (= !r0_0 !r1_0)); (or (not (= !i0 !i1)) (= !d0 !d1)); (or (= !i0 !i1) (not (= !r0_0 !r1_0)) (not (= !d0 !d1)))", ""}, {"p", "p", "", ""}, {"(= (store a i 1) b)", "(= !i0 !i2)", "(= !r0_0 1); (or (= i !w0) (= !r0_1 !r1_1)); (= !d0 !d1); (or (not (= i !w0)) (= !r0_0 !r0_1)); (or (not (= i !w0)) (= !r1_0 !r1_1)); (or (not (= i !w0)) (= !r2_0 !r2_1)); (or (not (= !i0 !i1)) (= !r0_0 !r1_0)); (or (not (= !i0 !i1)) (= !r0_1 !r1_1)); (or (not (= !i0 !i1)) (= !d0 !d1)); (or (not (= !i0 !i2)) (= !r0_0 !r2_0)); (or (not (= !i0 !i2)) (= !r0_1 !r2_1)); (or (not (= !i0 !i2)) (= !d0 !d2)); (or (not (= !i1 !i2)) (= !r1_0 !r2_0)); (or (not (= !i1 !i2)) (= !r1_1 !r2_1)); (or (not (= !i1 !i2)) (= !d1 !d2)); (or (= !i0 !i2) (not (= !r0_1 !r2_1)) (not (= !d0 !d2)))", ""},
	} {
		r, e := Reduce(tm(c.f))
		if e != api.OK || term.Format(r.Skeleton) != c.skeleton || texts(r.Lemmas) != c.lemmas || c.names != "" && names(r) != c.names {
			t.Error(c.f, e, "\n", term.Format(r.Skeleton), "\n", texts(r.Lemmas), "\n", names(r))
		}
	}
	var many []api.Term
	for k := range 46 {
		many = append(many, tree.Eq(tree.Node(api.Node{Op: api.OpSelect}, tree.Var("a", 4), tree.Num(strconv.Itoa(k), 2)), tree.Num("0", 2)))
	}
	if _, e := Reduce(tree.And(many[:45]...)); e != api.OK {
		t.Error(e)
	}
	for _, c := range []struct {
		f api.Term
		e api.Errno
	}{{tree.And(many...), api.ErrLimit}, {nil, api.ErrInvalid}, {tm("a"), api.ErrInvalid}, {tree.Node(api.Node{Op: api.OpApply, Sort: 1, Name: "f"}, tm("a")), api.ErrInvalid}} {
		_, e := Reduce(c.f)
		_, e2 := Lower(c.f, nil)
		_, e3 := Lift(c.f, nil)
		_, e4 := Violated(c.f, nil)
		if e != c.e || e2 != e || e3 != e || e4 != e {
			t.Error(e, e2, e3, e4)
		}
	}
}

func num(s string) api.Value { return api.Value{Sort: 2, Num: s} }

func array(other string, l ...string) api.Value {
	v := api.Value{Sort: 4, Num: other}
	for k := 0; k < len(l); k += 2 {
		v, _ = value.Store(v, l[k], l[k+1])
	}
	return v
}

func text(env []api.Binding) string {
	var s []string
	for _, b := range env {
		s = append(s, b.Name+"="+value.Format(b.Value))
	}
	return strings.Join(s, " ")
}

func TestP292Lower(t *testing.T) {
	env := []api.Binding{{Name: "a", Value: array("0", "-1000000000000", "5", "7", "1", "-7", "2")}, {Name: "b", Value: array("0")}, {Name: "i", Value: num("7")}, {Name: "unused", Value: num("1")}}
	l, e := Lower(tm("(and (= a b) (= (select b i) 1))"), env)
	if want := "!d0=0 !d1=0 !i0=0 !i1=1 !r0_0=1 !r0_1=1 !r1_0=0 !r1_1=0 !w0=7 i=7"; e != api.OK || text(l) != want {
		t.Error(text(l), e)
	}
	for _, c := range []struct {
		a, b api.Value
		w    string
	}{{array("0"), array("0"), "0"}, {array("0"), array("1"), "0"}, {array("0", "0", "1"), array("1", "1", "0"), "-1"}, {array("0", "-3", "1"), array("0", "3", "1"), "3"}, {array("0", "-3", "1"), array("0"), "(- 3)"}} {
		l, e := Lower(tm("(= a b)"), []api.Binding{{Name: "a", Value: c.a}, {Name: "b", Value: c.b}})
		if got := text(l); e != api.OK || !strings.HasSuffix(got, "!w0="+strings.Replace(c.w, "-1", "(- 1)", 1)) {
			t.Error(got, c.w, e)
		}
	}
	if _, e := Lower(tm("(= a b)"), env[:1]); e != api.ErrUnbound {
		t.Error(e)
	}
}

func TestP293P294Errors(t *testing.T) {
	f := tm("(and p (= (select a i) 1))")
	for k, c := range []struct {
		env []api.Binding
		e   api.Errno
	}{{nil, api.ErrUnbound}, {[]api.Binding{{Name: "i", Value: num("x")}}, api.ErrInvalid}, {[]api.Binding{{Name: "i", Value: api.Value{Sort: 1}}}, api.ErrSort}, {[]api.Binding{{Name: "i", Value: num("3")}, {Name: "p", Value: api.Value{Sort: 1}}}, api.ErrUnbound}} {
		if _, e := Lift(f, c.env); e != c.e {
			t.Error(k, e)
		}
	}
	if _, e := Violated(tm("(= a b)"), nil); e != api.ErrUnbound {
		t.Error(e)
	}
	env, _ := Lower(f, []api.Binding{{Name: "a", Value: array("4", "3", "1")}, {Name: "i", Value: num("3")}, {Name: "p", Value: api.Value{Sort: 1, Bool: true}}})
	l, e := Lift(f, env)
	if e != api.OK || text(l) != "a=(store (const 4) 3 1) i=3 p=true" {
		t.Error(text(l), e)
	}
	g := tm("(and (= (select a i) 1) (= (select a j) 2))")
	env = []api.Binding{{Name: "i", Value: num("3")}, {Name: "j", Value: num("3")}, {Name: "!r0_0", Value: num("1")}, {Name: "!r0_1", Value: num("2")}, {Name: "!i0", Value: num("0")}, {Name: "!d0", Value: num("0")}}
	if l, e := Violated(g, env); e != api.OK || !slices.Equal(l, []int{0}) {
		t.Error(l, e)
	}
	if l, e := Lift(g, env); e != api.OK || !strings.HasPrefix(text(l), "a=(store (const 0) 3 1) ") {
		t.Error(text(l), e)
	}
}

type generator struct{ *rand.Rand }

func (g generator) integer(d int) string {
	if d == 0 {
		return []string{"i", "j", "0", "1"}[g.Intn(4)]
	}
	return []string{"(select " + g.array(d-1) + " " + g.integer(d-1) + ")", "(+ i " + g.integer(d-1) + ")"}[g.Intn(2)]
}

func (g generator) array(d int) string {
	if d == 0 {
		return []string{"a", "b"}[g.Intn(2)]
	}
	return []string{"(store " + g.array(d-1) + " " + g.integer(d-1) + " " + g.integer(0) + ")", "(const " + g.integer(d-1) + ")", "(ite p " + g.array(d-1) + " " + g.array(0) + ")"}[g.Intn(3)]
}

func (g generator) formula(d int) string {
	if d == 0 {
		return []string{"(= " + g.array(1) + " " + g.array(1) + ")", "(= " + g.integer(2) + " " + g.integer(1) + ")", "(< i " + g.integer(2) + ")"}[g.Intn(3)]
	}
	return []string{"(and ", "(or "}[g.Intn(2)] + g.formula(d-1) + " (not " + g.formula(d-1) + "))"
}

func TestP295P296Random(t *testing.T) {
	g := generator{rand.New(rand.NewSource(13))}
	small := func() string { return strconv.Itoa(g.Intn(3)) }
	lifted := 0
	for range 600 {
		f := tm(g.formula(g.Intn(2)))
		r, e := Reduce(f)
		if e != api.OK {
			continue
		}
		env := []api.Binding{{Name: "a", Value: array(small(), small(), small())}, {Name: "b", Value: array(small(), small(), small(), small(), small())}, {Name: "i", Value: num(small())}, {Name: "j", Value: num(small())}, {Name: "p", Value: api.Value{Sort: 1, Bool: g.Intn(2) == 0}}}
		low, e := Lower(f, env)
		bad, e2 := Violated(f, low)
		if e != api.OK || e2 != api.OK || len(bad) > 0 || value.Holds(r.Skeleton, low, nil) != value.Holds(f, env, nil) {
			t.Fatal(term.Format(f), text(env), e, e2, bad)
		}
		for k := range low {
			if low[k].Value.Sort == 2 && g.Intn(5) == 0 {
				low[k].Value.Num = small()
			}
		}
		bad, _ = Violated(f, low)
		up, e := Lift(f, low)
		if e != api.OK {
			t.Fatal(e)
		}
		if len(bad) == 0 {
			lifted++
			if value.Holds(r.Skeleton, low, nil) && !value.Holds(f, up, nil) {
				t.Fatal(term.Format(f), text(low), text(up))
			}
		}
	}
	if lifted < 50 {
		t.Error(lifted)
	}
}
