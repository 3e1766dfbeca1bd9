package term

import (
	"reflect"
	"slices"
	"strings"
	"testing"

	"chcsolver/api"
	"chcsolver/sexpr"
	"chcsolver/tree"
)

var vars = []api.Var{{Name: "x", Sort: api.SortInt}, {Name: "y", Sort: api.SortInt}, {Name: "p", Sort: api.SortBool}, {Name: "q", Sort: api.SortBool}, {Name: "r", Sort: api.SortReal}, {Name: "s", Sort: api.SortReal}, {Name: "a", Sort: api.SortArray}, {Name: "b", Sort: api.SortArray}, {Name: "x", Sort: api.SortBool}}
var funcs = []api.Func{{Name: "P", Args: []int{api.SortInt, api.SortReal}, Result: api.SortBool}, {Name: "f", Args: []int{api.SortInt}, Result: api.SortInt}}

func parse(t *testing.T, src string) api.Term {
	t.Helper()
	f, at, e := Parse(src, vars, funcs)
	if e != api.OK || at != 0 || !Valid(f) {
		t.Fatal(src, at, e)
	}
	return f
}

func TestP31Names(t *testing.T) {
	for s, want := range map[string]bool{"x": true, "_a.b@c!1$": true, "!q": true, "$": true, "and": false, "Array": false, "": false, "1a": false, ".a": false, "a-b": false, "=>": false, strings.Repeat("a", api.MaxName): true, strings.Repeat("a", api.MaxName+1): false, "\xc3\xa9": false} {
		if IsName(s) != want {
			t.Error(s)
		}
	}
}

func TestP31Valid(t *testing.T) {
	x, r := tree.Var("x", api.SortInt), tree.Var("r", api.SortReal)
	chain := func(n int) api.Term {
		f := tree.Var("p", api.SortBool)
		for range n {
			f = tree.Not(f)
		}
		return f
	}
	wide := func(n int) api.Term { return tree.And(slices.Repeat([]api.Term{tree.True()}, n)...) }
	for i, f := range []api.Term{x, tree.Le(x, x), tree.Add(r), tree.Mul("1/2", api.SortReal, r), tree.And(), chain(api.MaxDepth), wide(api.MaxNodes - 1)} {
		if !Valid(f) {
			t.Error("valid", i)
		}
	}
	for i, f := range []api.Term{nil, {{Op: 21}}, {{Op: api.OpNot}}, append(slices.Clone(x), x...), tree.Le(x, r), tree.Num("1/2", api.SortInt), tree.Num("2/4", api.SortReal), tree.Num("1", api.SortBool), tree.Add(),
		{{Op: api.OpVar, Name: "and", Sort: 1}}, {{Op: api.OpVar, Name: "x", Sort: 5}}, {{Op: api.OpTrue, Sort: 1}}, {{Op: api.OpTrue, Kids: -1}}, tree.Node(api.Node{Op: api.OpMul}, x, tree.Num("1", api.SortInt)),
		tree.Node(api.Node{Op: api.OpDiv, Num: "0"}, x), tree.Node(api.Node{Op: api.OpDiv}, x), tree.Node(api.Node{Op: api.OpApply, Sort: 1, Name: "f"}), tree.Eq(x, tree.Eq(tree.Var("x", api.SortBool), tree.True())),
		tree.And(tree.Var("f", 1), tree.Node(api.Node{Op: api.OpApply, Sort: 1, Name: "f"}, x)), tree.And(tree.Node(api.Node{Op: api.OpApply, Sort: 1, Name: "f"}, x), tree.Node(api.Node{Op: api.OpApply, Sort: 1, Name: "f"}, r)),
		chain(api.MaxDepth + 1), wide(api.MaxNodes), {{Op: api.OpAnd, Kids: 1 << 40}}} {
		if Valid(f) || SortOf(f) != 0 || Kids(f) != nil || Vars(f) != nil || Funcs(f) != nil || Depth(f) != 0 || Format(f) != "" {
			t.Error("not valid", i)
		}
	}
	f := parse(t, "(and (P x r) (= (f y) (f x)) q)")
	if SortOf(f) != api.SortBool || Depth(f) != 4 || len(Kids(f)) != 3 || !reflect.DeepEqual(Vars(f), []api.Var{vars[0], vars[4], vars[1], vars[3]}) || !reflect.DeepEqual(Funcs(f), funcs) {
		t.Error("parts")
	}
	if SortOf(parse(t, "(ite p r s)")) != api.SortReal || SortOf(parse(t, "(store a x y)")) != api.SortArray || SortOf(parse(t, "(select a x)")) != api.SortInt {
		t.Error("sorts")
	}
}

func TestP32New(t *testing.T) {
	x, p := tree.Var("x", api.SortInt), tree.Var("p", api.SortBool)
	deep := tree.Var("p", api.SortBool)
	for range api.MaxDepth {
		deep = tree.Not(deep)
	}
	for i, c := range []struct {
		n    api.Node
		kids []api.Term
		e    api.Errno
	}{
		{api.Node{Op: api.OpNot, Kids: 7}, []api.Term{p}, api.OK}, {api.Node{Op: api.OpNot}, []api.Term{{}}, api.ErrInvalid}, {api.Node{Op: 99}, []api.Term{{}}, api.ErrInvalid}, {api.Node{Op: api.OpNot}, []api.Term{p, p}, api.ErrForm},
		{api.Node{Op: api.OpMul}, []api.Term{p, x}, api.ErrForm}, {api.Node{Op: api.OpMul}, []api.Term{tree.Num("1", api.SortReal), x}, api.ErrSort}, {api.Node{Op: api.OpNot}, []api.Term{x}, api.ErrSort}, {api.Node{Op: api.OpNot, Sort: 1}, []api.Term{p}, api.ErrForm},
		{api.Node{Op: api.OpNot}, []api.Term{deep}, api.ErrLimit}, {api.Node{Op: api.OpAnd}, []api.Term{deep, tree.Eq(tree.Var("p", api.SortInt), x)}, api.ErrSort}, {api.Node{Op: api.OpApply, Sort: 1, Name: "x"}, []api.Term{x}, api.ErrSort},
		{api.Node{Op: api.OpAnd}, slices.Repeat([]api.Term{p}, api.MaxNodes), api.ErrLimit}, {api.Node{Op: api.OpAnd}, slices.Repeat([]api.Term{p}, api.MaxNodes-1), api.OK},
	} {
		f, e := New(c.n, c.kids...)
		if e != c.e || (e == api.OK) != Valid(f) {
			t.Error(i, e)
		}
	}
}

func TestP33Compare(t *testing.T) {
	l := []api.Term{nil, {{Op: 1}}, {{Op: 1}, {Op: -1}}, {{Op: 1, Kids: 1}}, {{Op: 1, Num: "a"}}, {{Op: 1, Name: "a"}}, {{Op: 1, Sort: 1}}, {{Op: 2}}}
	for i := range l {
		for j := range l {
			want := 0
			if i < j {
				want = -1
			} else if i > j {
				want = 1
			}
			if Compare(l[i], l[j]) != want {
				t.Error(i, j)
			}
		}
	}
}

func TestP34P35RoundTrip(t *testing.T) {
	for _, s := range []string{"true", "false", "x", "7", "(- 7)", "2.0", "(- (/ 3.0 4.0))", "(not p)", "(and)", "(or p)", "(=> p q)", "(ite p x y)", "(= x y)", "(<= x y)", "(< r s)", "(+ x)", "(* (- 2) x)", "(div x 3)", "(mod x 3)", "(select a x)", "(store a x 1)", "(const x)", "(P x r)", "(f (f 1))"} {
		if f := parse(t, s); Format(f) != s {
			t.Error(s, Format(f))
		}
	}
	for s, want := range map[string]string{
		"(* x 2)": "(* 2 x)", "(* 2 3)": "(* 2 3)", "(- x)": "(* (- 1) x)", "(- r 1.5 s)": "(+ r (- (/ 3.0 2.0)) (* (- 1.0) s))", "(/ 1 2)": "(/ 1.0 2.0)", "(/ (- 1.0) 2.0)": "(- (/ 1.0 2.0))", "(> x y)": "(< y x)", "(>= x y)": "(<= y x)", "(distinct x y)": "(not (= x y))",
		"(let ((x y) (y 3)) (+ x y))": "(+ y 3)", "(let ((c 2)) (* x c))": "(* 2 x)", "(let ((x p)) (and x (let ((x q)) x) x))": "(and p q p)", "(- 0)": "0", "(let ((f x)) (f f))": "(f x)", "(- (- 3))": "3",
	} {
		if f := parse(t, s); Format(f) != want {
			t.Error(s, Format(f))
		}
	}
}

func TestP35P36Errors(t *testing.T) {
	many := "(and" + strings.Repeat(" p", api.MaxNodes) + ")"
	nots := strings.Repeat("(not ", 200)
	deep := "(let ((z " + nots + "p" + strings.Repeat(")", 200) + ")) " + strings.Repeat("(not ", 60) + "z" + strings.Repeat(")", 61)
	for _, c := range []struct {
		src string
		at  int
		e   api.Errno
	}{
		{"", 0, api.ErrSyntax}, {"x y", 2, api.ErrSyntax}, {"(x", 2, api.ErrSyntax}, {"()", 0, api.ErrSyntax}, {"(x 1)", 0, api.ErrSyntax}, {"(1)", 0, api.ErrSyntax}, {"(not)", 0, api.ErrSyntax}, {"(f 1 2)", 0, api.ErrSyntax}, {"(+)", 0, api.ErrSyntax},
		{"(not z)", 5, api.ErrName}, {"(not \"a\")", 5, api.ErrSyntax}, {"(* x y)", 0, api.ErrForm}, {"(/ 1 2.0)", 0, api.ErrForm}, {"(/ 1 0)", 0, api.ErrForm}, {"(/ r 2.0)", 0, api.ErrForm}, {"(div x 0)", 0, api.ErrForm}, {"(div p y)", 0, api.ErrForm}, {"(mod z y)", 5, api.ErrName},
		{"(mod r 2)", 0, api.ErrSort}, {"(and p x)", 0, api.ErrSort}, {"(+ x r)", 0, api.ErrSort}, {"(- p)", 0, api.ErrSort}, {"(- a x)", 0, api.ErrSort}, {"(P x x)", 0, api.ErrSort}, {"(= (f p) z)", 3, api.ErrSort}, {many, 0, api.ErrLimit}, {deep, 10 + 1000 + 1 + 200 + 2 + 15, api.ErrLimit},
		{"(let () x)", 0, api.ErrSyntax}, {"(let ((x 1) (x 2)) x)", 0, api.ErrSyntax}, {"(let ((and 1)) x)", 0, api.ErrSyntax}, {"(let ((x 1 2)) x)", 0, api.ErrSyntax}, {"(let ((z 1) (w z)) x)", 15, api.ErrName}, {"(let ((z 1)) (+ z w))", 18, api.ErrName}, {"(forall x)", 0, api.ErrSyntax},
	} {
		if f, at, e := Parse(c.src, vars, funcs); f != nil || e != c.e || e != api.ErrLimit && at != c.at {
			t.Error(c.src, at, e)
		}
	}
	bad := [][]api.Var{{{Name: "1", Sort: 1}}, {{Name: "x", Sort: 0}}}
	for _, v := range bad {
		if _, at, e := Parse("true", v, nil); at != 0 || e != api.ErrInvalid {
			t.Error(v, e)
		}
	}
	for _, f := range []api.Func{{Name: "f", Result: 1}, {Name: "f", Args: []int{5}, Result: 1}, {Name: "not", Args: []int{1}, Result: 1}, {Name: "f", Args: make([]int, 41), Result: 1}, {Name: "f", Args: []int{1}}} {
		if _, _, e := Parse("true", nil, []api.Func{f}); e != api.ErrInvalid {
			t.Error(f, e)
		}
	}
	if _, _, e := Parse("(", bad[0], nil); e != api.ErrSyntax {
		t.Error("errors of the text come first", e)
	}
	l, _, _ := sexpr.Parse("p (not x)")
	if f, at, e := Read(l, 1, vars, nil); f != nil || at != 1 || e != api.ErrSort {
		t.Error(at, e)
	}
	for _, i := range []int{-1, 4} {
		if _, at, e := Read(l, i, vars, nil); at != 0 || e != api.ErrInvalid {
			t.Error(i, e)
		}
	}
	if _, _, e := Read([]api.Item{{Kind: 9}}, 0, nil, nil); e != api.ErrInvalid {
		t.Error(e)
	}
}
