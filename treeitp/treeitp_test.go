package treeitp

import (
	"math/rand"
	"slices"
	"strconv"
	"testing"

	"chcsolver/api"
	"chcsolver/smt"
	"chcsolver/term"
	"chcsolver/tree"
)

var vars = []api.Var{{Name: "x", Sort: 2}, {Name: "y", Sort: 2}, {Name: "z", Sort: 2}, {Name: "u", Sort: 2}, {Name: "p", Sort: 1}, {Name: "r", Sort: 3}}

func tm(s string) api.Term {
	t, _, e := term.Parse(s, vars, nil)
	if e != api.OK {
		panic(s)
	}
	return t
}

func parts(l ...any) []api.Part {
	var out []api.Part
	for i := 0; i < len(l); i += 2 {
		out = append(out, api.Part{Parent: l[i].(int), F: tm(l[i+1].(string))})
	}
	return out
}

func TestP361Shared(t *testing.T) {
	l := parts(-1, "(< z x)", 0, "(< x y)", 1, "(and p (< y u))", 0, "(or p (< z u))")
	for i, want := range [][]string{nil, {"p", "u", "x"}, {"p", "u", "y"}, {"p", "u", "z"}} {
		s, e := Shared(l, i)
		if e != api.OK || !slices.Equal(tree.Names(s), want) {
			t.Error(i, s, e)
		}
	}
	bad := [][]api.Part{nil, parts(0, "p"), parts(-1, "p", -1, "p"), parts(-1, "p", 1, "p"), parts(-1, "x"), {{Parent: -1}}, {{Parent: -1, F: tm("p")}, {F: tree.Eq(tree.Var("p", 2), tm("x"))}}, slices.Repeat(parts(-1, "p"), 41)}
	for i, l := range bad {
		_, e := Shared(l, 0)
		_, e2 := Check(l, nil, nil)
		_, _, e3 := Of(l, 5)
		if e != api.ErrInvalid || e2 != e || e3 != e {
			t.Error(i, e, e2, e3)
		}
	}
	for _, i := range []int{-1, 4} {
		if _, e := Shared(l, i); e != api.ErrInvalid {
			t.Error(i, e)
		}
	}
	if _, _, e := Of(l, -1); e != api.ErrInvalid {
		t.Error(e)
	}
}

func bind(x, y string) []api.Binding {
	return []api.Binding{{Name: "x", Value: api.Value{Sort: 2, Num: x}}, {Name: "y", Value: api.Value{Sort: 2, Num: y}}}
}

func TestP362Check(t *testing.T) {
	l := parts(-1, "(< x 0)", 0, "(and (< y x) (< 0 y))")
	no, good, weak := tm("false"), tm("(< 0 x)"), tm("(< 5 x)")
	for i, c := range []struct {
		fs  []api.Term
		env []api.Binding
		is  bool
		e   api.Errno
	}{{[]api.Term{no, good}, bind("3", "1"), true, api.OK}, {[]api.Term{no, weak}, bind("3", "1"), false, api.OK}, {[]api.Term{no, weak}, bind("9", "1"), true, api.OK}, {[]api.Term{no, tm("true")}, bind("-3", "1"), false, api.OK}, {[]api.Term{no}, bind("3", "1"), false, api.ErrForm}, {[]api.Term{good, good}, bind("3", "1"), false, api.ErrForm}, {[]api.Term{no, tm("(< 0 y)")}, bind("3", "1"), false, api.ErrForm}, {[]api.Term{no, tm("x")}, bind("3", "1"), false, api.ErrForm}, {[]api.Term{no, nil}, bind("3", "1"), false, api.ErrForm}, {[]api.Term{no, good}, nil, false, api.ErrUnbound}} {
		if is, e := Check(l, c.fs, c.env); is != c.is || e != c.e {
			t.Error(i, is, e)
		}
	}
}

func checkOf(t *testing.T, l []api.Part) int {
	t.Helper()
	fs, answer, e := Of(l, 40)
	if e != api.OK {
		t.Fatal(e)
	}
	if answer != api.Unsat {
		if len(fs) > 0 {
			t.Fatal("formulas")
		}
		return answer
	}
	if !permitted(l, fs) {
		t.Fatal("form")
	}
	for i, p := range l {
		premise := []api.Term{p.F}
		for k := range l {
			if l[k].Parent == i {
				premise = append(premise, fs[k])
			}
		}
		if a, _, _ := smt.Valid(tree.Implies(tree.And(premise...), fs[i]), 300); a == api.Sat {
			t.Fatal(i, term.Format(fs[i]))
		}
	}
	return answer
}

func TestP363P364Of(t *testing.T) {
	if checkOf(t, parts(-1, "(< x 0)", 0, "(> x 0)")) != api.Unsat || checkOf(t, parts(-1, "(< x 0)", 0, "(> y 0)")) != api.Sat || checkOf(t, parts(-1, "false")) != api.Unsat || checkOf(t, parts(-1, "(< z x)", 0, "(<= x y)", 1, "(<= y u)", 0, "(<= u z)")) != api.Unsat {
		t.Error("answers")
	}
	if fs, _, _ := Of(parts(-1, "(< x 0)", 0, "(> x 0)"), 5); len(fs) != 2 || term.Format(fs[0]) != "false" {
		t.Error(fs)
	}
	g := rand.New(rand.NewSource(21))
	counts := map[int]int{}
	for range 200 {
		var l []api.Part
		for i := range 2 + g.Intn(4) {
			name := func() string { return []string{"x", "y", "z", "u"}[g.Intn(4)] }
			f := "(< " + name() + " (+ " + name() + " " + strconv.Itoa(g.Intn(3)) + "))"
			h := []string{"(= " + name() + " (+ 1 " + name() + "))", "(or p (< " + name() + " " + name() + "))", "(=> p (< " + name() + " " + name() + "))", "(= (mod " + name() + " 2) 1)"}[g.Intn(4)]
			parent := -1
			if i > 0 {
				parent = g.Intn(i)
			}
			l = append(l, api.Part{Parent: parent, F: tm("(and " + f + " " + h + ")")})
		}
		counts[checkOf(t, l)]++
	}
	if counts[api.Unsat] < 40 || counts[api.Sat] < 10 || counts[api.Unknown] > 10 {
		t.Error(counts)
	}
}
