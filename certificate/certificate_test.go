package certificate

import (
	"reflect"
	"slices"
	"strconv"
	"strings"
	"testing"

	"chcsolver/api"
	"chcsolver/system"
	"chcsolver/tree"
)

func chain(t *testing.T) api.System {
	t.Helper()
	s, _, e := system.Parse("(declare-fun P (Int) Bool)(assert (forall ((x Int)) (=> (= x 0) (P x))))(assert (forall ((x Int) (y Int)) (=> (and (P x) (= y (+ x 1))) (P y))))(assert (forall ((x Int)) (=> (and (P x) (= x 2)) false)))")
	if e != api.OK {
		t.Fatal(e)
	}
	return s
}

const refutation = "(2 (2) (1 (1 2) (1 (0 1) (0 (0)))))"

func parseTree(t *testing.T, s api.System, src string) api.Tree {
	t.Helper()
	r, at, e := ParseTree(s, src)
	if e != api.OK || at != 0 {
		t.Fatal(src, at, e)
	}
	return r
}

func model(t *testing.T, src string) api.Model {
	t.Helper()
	m, at, e := ParseModel(src)
	if e != api.OK || at != 0 {
		t.Fatal(src, at, e)
	}
	return m
}

func num(s string) api.Value { return api.Value{Sort: api.SortInt, Num: s} }

func TestP91Models(t *testing.T) {
	s := chain(t)
	m := model(t, "(define-fun P ((z Int)) Bool (< z 1))")
	for _, c := range []struct {
		clause int
		vals   []api.Value
		want   bool
		e      api.Errno
	}{{0, []api.Value{num("0")}, true, api.OK}, {1, []api.Value{num("0"), num("1")}, false, api.OK}, {1, []api.Value{num("5"), num("6")}, true, api.OK}, {1, []api.Value{num("0"), num("5")}, true, api.OK}, {2, []api.Value{num("2")}, true, api.OK}, {3, nil, false, api.ErrInvalid}, {-1, nil, false, api.ErrInvalid}, {0, nil, false, api.ErrInvalid}, {0, []api.Value{{Sort: api.SortReal, Num: "0"}}, false, api.ErrInvalid}, {0, []api.Value{num("x")}, false, api.ErrInvalid}} {
		if is, e := ClauseAt(s, m, c.clause, c.vals); is != c.want || e != c.e {
			t.Error(c, is, e)
		}
	}
	if is, e := ClauseAt(s, model(t, "(define-fun P ((z Int)) Bool true)"), 2, []api.Value{num("2")}); is || e != api.OK {
		t.Error("a query is false", e)
	}
	for i, m := range []api.Model{{}, model(t, "(define-fun Q ((z Int)) Bool true)"), model(t, "(define-fun P ((z Real)) Bool true)"), model(t, "(define-fun P () Bool true)"), {Defs: []api.Def{{Pred: "P", Params: []api.Var{{Name: "z", Sort: 2}}, Body: tree.Eq(tree.Var("y", 2), tree.Var("y", 2))}}}, {Defs: []api.Def{{Pred: "P", Params: []api.Var{{Name: "z", Sort: 2}}, Body: tree.Var("z", 2)}}}, {Defs: []api.Def{{Pred: "P", Params: []api.Var{{Name: "not", Sort: 2}}, Body: tree.True()}}}} {
		if Shaped(s, m) {
			t.Error(i)
		}
		if _, e := ClauseAt(s, m, 0, []api.Value{num("0")}); e != api.ErrInvalid {
			t.Error(i, e)
		}
	}
	if !Shaped(s, m) || Shaped(api.System{Preds: []api.Func{{Name: "P", Args: []int{2}}}}, m) {
		t.Error("Shaped")
	}
}

func TestP92P93Trees(t *testing.T) {
	s := chain(t)
	r := parseTree(t, s, refutation)
	if !Refutes(s, r) || CheckTree(s, r) != api.OK || Height(r) != 4 || len(r) != 4 {
		t.Error(r)
	}
	if Refutes(s, Subtree(r, 1)) || CheckTree(s, Subtree(r, 1)) != api.OK {
		t.Error("a subtree is a derivation")
	}
	facts, e := Facts(s, r)
	if e != api.OK || len(facts) != 4 || facts[0].Pred != "" || facts[1].Args[0].Num != "2" || facts[3].Args[0].Num != "0" {
		t.Error(facts)
	}
	if f, e := Root(s, Subtree(r, 2)); e != api.OK || f.Pred != "P" || f.Args[0].Num != "1" {
		t.Error(f)
	}
	long := slices.Repeat(r[3:], api.MaxTree+1)
	for i, c := range []struct {
		s api.System
		t api.Tree
		e api.Errno
	}{{api.System{Preds: []api.Func{{}}}, r, api.ErrInvalid}, {s, long, api.ErrLimit}, {s, nil, api.ErrForm}, {s, long[:2], api.ErrForm}, {s, r[:3], api.ErrForm}, {s, api.Tree{{Clause: 3}}, api.ErrForm}, {s, api.Tree{{Clause: -1}}, api.ErrForm}, {s, api.Tree{{Clause: 1, Values: []api.Value{num("0"), num("1")}}}, api.ErrForm}, {s, api.Tree{{Kids: -1}}, api.ErrForm}, {s, api.Tree{{}}, api.ErrSort}, {s, api.Tree{{Values: []api.Value{{Sort: 1}}}}, api.ErrSort}, {s, parseTree(t, s, "(0 (1))"), api.ErrProof}, {s, parseTree(t, s, "(2 (3) (1 (1 2) (1 (0 1) (0 (0)))))"), api.ErrProof}, {s, parseTree(t, s, "(1 (1 2) (0 (0)))"), api.ErrProof}} {
		_, e := Root(c.s, c.t)
		l, e2 := Facts(c.s, c.t)
		if CheckTree(c.s, c.t) != c.e || e != c.e || e2 != c.e || l != nil || Refutes(c.s, c.t) {
			t.Error(i, e)
		}
	}
}

func TestP93Graft(t *testing.T) {
	s := chain(t)
	r := parseTree(t, s, refutation)
	g, e := Graft(r, 2, parseTree(t, s, "(0 (1))"))
	if e != api.OK || FormatTree(s, g) != "(2 (2) (1 (1 2) (0 (1))))" {
		t.Error(FormatTree(s, g), e)
	}
	g[0].Values[0].Num = "9"
	if r[0].Values[0].Num != "2" {
		t.Error("shared memory")
	}
	for i, c := range []struct {
		t  api.Tree
		i  int
		by api.Tree
		e  api.Errno
	}{{nil, 0, r, api.ErrInvalid}, {r, 4, r, api.ErrInvalid}, {r, -1, r, api.ErrInvalid}, {r, 0, nil, api.ErrInvalid}, {r, 0, r[:2], api.ErrInvalid}} {
		if _, e := Graft(c.t, c.i, c.by); e != c.e {
			t.Error(i, e)
		}
	}
	long := slices.Repeat(api.Tree{{Clause: 1, Kids: 1}}, api.MaxTree)
	long[len(long)-1] = api.TreeNode{}
	if _, e := Graft(long, len(long)-1, long); e != api.ErrLimit {
		t.Error(e)
	}
	if g, e := Graft(long, len(long)-1, r[3:]); e != api.OK || Height(g) != api.MaxTree {
		t.Error(e)
	}
	if Height(nil) != 0 || Height(r[:2]) != 0 || Subtree(r, 4) != nil || Subtree(nil, 0) != nil {
		t.Error("not well-formed")
	}
}

func TestP94Models(t *testing.T) {
	src := "(define-fun P ((x Int) (a (Array Int Int))) Bool (= (select a x) (- 1)))\n(define-fun Q () Bool false)\n"
	if m := model(t, src); FormatModel(m) != src {
		t.Error(FormatModel(m))
	}
	for i, d := range []api.Def{{Pred: "1", Body: tree.True()}, {Pred: "P"}, {Pred: "P", Params: []api.Var{{Name: "x", Sort: 1}, {Name: "x", Sort: 1}}, Body: tree.True()}, {Pred: "P", Body: tree.Var("x", 1)}} {
		if FormatModel(api.Model{Defs: []api.Def{d}}) != "" {
			t.Error(i)
		}
	}
	var many strings.Builder
	for i := range 41 {
		many.WriteString("(x" + strconv.Itoa(i) + " Int)")
	}
	for _, c := range []struct {
		src string
		at  int
		e   api.Errno
	}{{"(", 1, api.ErrSyntax}, {"x", 0, api.ErrSyntax}, {" (define-fun P () Int true)", 1, api.ErrSyntax}, {"(define-fun and () Bool true)", 0, api.ErrSyntax}, {"(define-fun P ((x)) Bool true)", 0, api.ErrSyntax}, {"(define-fun P ((x Foo)) Bool true)", 0, api.ErrSyntax}, {"(define-fun P x Bool true)", 0, api.ErrSyntax}, {"(define-fun P ((x Int) (x Int)) Bool y)", 0, api.ErrDuplicate}, {"(define-fun P (" + many.String() + ") Bool y)", 0, api.ErrLimit}, {"(define-fun P () Bool (not y))", 27, api.ErrName}, {"(define-fun P () Bool 1)", 0, api.ErrSort}, {"(define-fun P () Bool true)(define-fun P () Bool)", 27, api.ErrSyntax}} {
		if m, at, e := ParseModel(c.src); at != c.at || e != c.e || m.Defs != nil {
			t.Error(c.src, at, e)
		}
	}
	if m := model(t, ""); FormatModel(m) != "" {
		t.Error("no definitions")
	}
}

func TestP95Trees(t *testing.T) {
	s := chain(t)
	r := parseTree(t, s, refutation)
	if FormatTree(s, r) != refutation || !reflect.DeepEqual(parseTree(t, s, FormatTree(s, r)), r) {
		t.Error(FormatTree(s, r))
	}
	if FormatTree(s, parseTree(t, s, "(0 ((+ 2 3)))")) != "(0 (5))" || FormatTree(s, r[:2]) != "" || FormatTree(s, api.Tree{{}}) != "" {
		t.Error("FormatTree")
	}
	for _, c := range []struct {
		src string
		at  int
		e   api.Errno
	}{{"(", 1, api.ErrSyntax}, {"", 0, api.ErrSyntax}, {"(0 (0)) (0 (0))", 8, api.ErrSyntax}, {"0", 0, api.ErrSyntax}, {"(0)", 0, api.ErrSyntax}, {"(0 0)", 0, api.ErrSyntax}, {"(x (0))", 0, api.ErrSyntax}, {"(3 ())", 0, api.ErrForm}, {"(99999999999999999999 ())", 0, api.ErrForm}, {"(0 (0) (0 (0)))", 0, api.ErrForm}, {"(1 (0 1))", 0, api.ErrForm}, {"(0 ())", 0, api.ErrSort}, {"(0 (x))", 0, api.ErrSort}, {"(0 (1.0))", 0, api.ErrSort}, {"(2 (2) (0 (true)))", 7, api.ErrSort}, {"(2 (2) x)", 7, api.ErrSyntax}} {
		if r, at, e := ParseTree(s, c.src); at != c.at || e != c.e || r != nil {
			t.Error(c.src, at, e)
		}
	}
	if _, at, e := ParseTree(api.System{Preds: []api.Func{{}}}, "("); at != 0 || e != api.ErrInvalid {
		t.Error(at, e)
	}
	wide, _, _ := system.Parse("(declare-fun A () Bool)(assert (=> (and A A A A A A A A) A))(assert A)")
	full := func(d int) string {
		text := "(1 ())"
		for range d {
			text = "(0 () " + strings.Repeat(text+" ", 8) + ")"
		}
		return text
	}
	if r, _, e := ParseTree(wide, full(4)); e != api.ErrLimit && e != api.OK || e == api.OK && len(r) > api.MaxTree {
		t.Error(e)
	}
	if _, at, e := ParseTree(wide, "(0 () "+full(3)+full(3)+full(3)+full(3)+full(3)+full(3)+full(3)+full(3)+")"); e != api.ErrLimit || at == 0 {
		t.Error(at, e)
	}
}
