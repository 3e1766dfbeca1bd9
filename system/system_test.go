package system

import (
	"reflect"
	"slices"
	"strconv"
	"strings"
	"testing"

	"chcsolver/api"
	"chcsolver/term"
	"chcsolver/tree"
)

func parse(t *testing.T, src string) api.System {
	t.Helper()
	s, at, e := Parse(src)
	if e != api.OK || at != 0 || !Valid(s) {
		t.Fatal(src, at, e, Check(s))
	}
	return s
}

const text = `(set-logic HORN)
(declare-fun P (Int) Bool)
(declare-fun Q () Bool)
(declare-fun R (Bool Real (Array Int Int)) Bool)
(assert (forall ((x Int)) (=> (and (P x) (< x 3)) (P (+ x 1)))))
(assert (=> (and Q true) false))
(assert (forall ((b Bool) (r Real) (a (Array Int Int))) (=> (and (R b r a) Q (P (select a 0)) (and b (< r 1.0))) Q)))
(check-sat)
`

func TestP82P83RoundTrip(t *testing.T) {
	s := parse(t, text)
	if Format(s) != text {
		t.Error(Format(s))
	}
	if len(s.Clauses[2].Body) != 3 || len(s.Clauses[2].Vars) != 3 || s.Clauses[1].Head.Pred != "" || Linear(s) {
		t.Error(s)
	}
}

func TestP83Clauses(t *testing.T) {
	head := "(declare-fun P (Int) Bool)(declare-fun Q () Bool)(declare-fun B (Bool) Bool)"
	for src, want := range map[string]string{
		"(=> (P x) (<= 0 x))": "(=> (and (P x) (not (<= 0 x))) false)", "(not (P x))": "(=> (and (P x) true) false)", "(P x)": "(=> (and true) (P x))", "Q": "(=> (and true) Q)", "(< x 1)": "(=> (and (not (< x 1))) false)", "false": "(=> (and true) false)", "true": "(=> (and (not true)) false)",
		"(=> (and (and (P x) (< x 1)) (and (< x 2)) Q) Q)": "(=> (and (P x) Q (and (< x 1) (and (< x 2)))) Q)", "(=> (and) Q)": "(=> (and true) Q)", "(not (and Q (< x 1) (< x 2)))": "(=> (and Q (and (< x 1) (< x 2))) false)", "(=> Q (P 1))": "(=> (and Q true) (P 1))", "(=> (P x) (not (< x 1)))": "(=> (and (P x) (not (not (< x 1)))) false)",
		"(let ((y (+ x 1))) (=> (P y) (P x)))": "(=> (and (P (+ x 1)) true) (P x))", "(B (< x 1))": "(=> (and true) (B (< x 1)))",
	} {
		s := parse(t, head+"(assert (forall ((x Int)) "+src+"))")
		if got := Format(s); !strings.Contains(got, "(assert (forall ((x Int)) "+want+"))") {
			t.Error(src, got)
		}
	}
	if s := parse(t, "(set-info :a b)(exit 1 2)(get-model)(set-option)"); len(s.Clauses) != 0 {
		t.Error(s)
	}
}

func TestP83Errors(t *testing.T) {
	head := "(declare-fun P (Int) Bool)(declare-fun Q () Bool)(declare-fun B (Bool) Bool)"
	vars := func(n int) string {
		var b strings.Builder
		for i := range n {
			b.WriteString("(v" + strconv.Itoa(i) + " Int)")
		}
		return b.String()
	}
	for _, c := range []struct {
		src string
		at  int
		e   api.Errno
	}{
		{"(x", 2, api.ErrSyntax}, {"x", 0, api.ErrSyntax}, {"()", 0, api.ErrSyntax}, {"(foo)", 0, api.ErrSyntax}, {"((assert) true)", 0, api.ErrSyntax}, {" (declare-fun P)", 1, api.ErrSyntax}, {"(declare-fun P Int Bool)", 0, api.ErrSyntax}, {"(declare-fun and () Bool)", 0, api.ErrSyntax}, {"(declare-fun P (Foo) Bool)", 0, api.ErrSyntax},
		{"(declare-fun P () Foo)", 0, api.ErrSyntax}, {"(declare-fun P (Foo) Int)", 0, api.ErrSyntax}, {"(declare-fun P (Int) Int)", 0, api.ErrSort}, {"(declare-fun P ((Array Int Bool)) Bool)", 0, api.ErrSyntax}, {"(declare-fun P () Bool)(declare-fun P () Bool)", 23, api.ErrDuplicate}, {"(declare-fun P (" + strings.Repeat("Int ", 41) + ") Bool)", 0, api.ErrLimit},
		{"(assert (forall ((x Int)) false))(declare-fun x () Bool)", 33, api.ErrDuplicate}, {"(assert)", 0, api.ErrSyntax}, {"(assert (forall () true))", 0, api.ErrSyntax}, {"(assert (forall ((x Foo)) true))", 0, api.ErrSyntax}, {"(assert (forall ((x Int) (x Int) (y)) true))", 0, api.ErrSyntax}, {"(assert (forall ((x Int) (x Int)) z))", 0, api.ErrDuplicate}, {"(assert (forall ((not Int)) z))", 0, api.ErrSyntax},
		{head + "(assert (forall ((P Int)) true))", len(head), api.ErrDuplicate}, {head + "(assert z)", len(head) + 8, api.ErrName}, {head + "(assert (P true))", len(head) + 8, api.ErrSort}, {head + "(assert 1)", len(head), api.ErrSort}, {head + "(assert (or Q Q))", len(head), api.ErrForm}, {head + "(assert (=> (not Q) Q))", len(head), api.ErrForm}, {head + "(assert (=> Q (=> Q Q)))", len(head), api.ErrForm},
		{head + "(assert (B Q))", len(head), api.ErrForm}, {head + "(assert (not (B (P 1))))", len(head), api.ErrForm}, {head + "(assert (not (and" + strings.Repeat(" Q", 9) + ")))", len(head), api.ErrLimit}, {"(assert (forall (" + vars(401) + ") true))", 0, api.ErrLimit}, {strings.Repeat("(assert true)", 2049), 13 * 2048, api.ErrLimit},
	} {
		if s, at, e := Parse(c.src); e != c.e || at != c.at || len(s.Preds)+len(s.Clauses) > 0 {
			t.Error(c.src[:min(len(c.src), 200)], at, e)
		}
	}
}

func TestP81Check(t *testing.T) {
	x := tree.Var("x", api.SortInt)
	base := func() api.System {
		return api.System{Preds: []api.Func{{Name: "P", Args: []int{api.SortInt}, Result: 1}}, Clauses: []api.Clause{{Vars: []api.Var{{Name: "x", Sort: api.SortInt}}, Body: []api.App{{Pred: "P", Args: []api.Term{x}}}, Guard: tree.True(), Head: api.App{Pred: "P", Args: []api.Term{x}}}}}
	}
	for i, c := range []struct {
		change func(*api.System)
		want   []api.Diag
	}{
		{func(s *api.System) {}, nil}, {func(s *api.System) { s.Preds[0].Result = 2 }, []api.Diag{{Where: -1, Code: 1}}}, {func(s *api.System) { s.Preds = append(s.Preds, s.Preds[0]) }, []api.Diag{{Where: -1, Code: 1}}}, {func(s *api.System) { s.Preds[0].Args = []int{9} }, []api.Diag{{Where: -1, Code: 1}, {Where: 0, Code: 3}, {Where: 0, Code: 5}}},
		{func(s *api.System) { s.Preds = append(s.Preds, api.Func{Name: "x", Result: 1}) }, []api.Diag{{Where: 0, Code: 2}}}, {func(s *api.System) { s.Clauses[0].Vars = append(s.Clauses[0].Vars, s.Clauses[0].Vars[0]) }, []api.Diag{{Where: 0, Code: 2}}}, {func(s *api.System) { s.Clauses[0].Vars = nil }, []api.Diag{{Where: 0, Code: 3}, {Where: 0, Code: 5}}},
		{func(s *api.System) { s.Clauses[0].Body[0].Args = nil }, []api.Diag{{Where: 0, Code: 3}}}, {func(s *api.System) { s.Clauses[0].Guard = nil }, []api.Diag{{Where: 0, Code: 4}}}, {func(s *api.System) { s.Clauses[0].Guard = x }, []api.Diag{{Where: 0, Code: 4}}}, {func(s *api.System) { s.Clauses[0].Head.Pred = "" }, []api.Diag{{Where: 0, Code: 5}}}, {func(s *api.System) { s.Clauses[0].Head.Pred = "Z" }, []api.Diag{{Where: 0, Code: 5}}},
		{func(s *api.System) { s.Clauses[0].Guard = tree.Node(api.Node{Op: api.OpApply, Sort: 1, Name: "P"}, x) }, []api.Diag{{Where: 0, Code: 4}}}, {func(s *api.System) { s.Clauses[0].Body = slices.Repeat(s.Clauses[0].Body, 9) }, []api.Diag{{Where: 0, Code: 6}}}, {func(s *api.System) { s.Clauses = slices.Repeat(s.Clauses, 2049) }, []api.Diag{{Where: -1, Code: 6}}}, {func(s *api.System) { s.Clauses[0].Vars[0].Sort = api.SortReal }, []api.Diag{{Where: 0, Code: 3}, {Where: 0, Code: 5}}},
	} {
		s := base()
		c.change(&s)
		if got := Check(s); !slices.Equal(got, c.want) || Valid(s) != (c.want == nil) {
			t.Error(i, got)
		}
		if c.want != nil && (Format(s) != "" || Graph(s) != nil || Components(s) != nil || Recursive(s) != nil || Queries(s) != nil || Linear(s)) {
			t.Error(i, "functions of a system that is not valid")
		}
	}
}

func TestP84Graph(t *testing.T) {
	s := parse(t, "(declare-fun A () Bool)(declare-fun B () Bool)(declare-fun C () Bool)(declare-fun D () Bool)(declare-fun E () Bool)(assert (=> (and D D) A))(assert (=> C B))(assert (=> B C))(assert (=> (and E B) C))(assert (not A))(assert (=> D D))(assert A)(assert false)")
	if g := Graph(s); !reflect.DeepEqual(g, [][]int{{3}, {2}, {1, 4}, {3}, nil}) {
		t.Error(g)
	}
	if c := Components(s); !reflect.DeepEqual(c, [][]int{{3}, {0}, {4}, {1, 2}}) {
		t.Error(c)
	}
	if r := Recursive(s); !slices.Equal(r, []bool{false, true, true, true, false}) {
		t.Error(r)
	}
	if q := Queries(s); !slices.Equal(q, []int{4, 7}) || Linear(s) {
		t.Error(q)
	}
	if !Linear(parse(t, "(declare-fun A () Bool)(assert (=> A A))")) || term.IsName("") {
		t.Error("Linear")
	}
}
