package lang

import (
	"reflect"
	"slices"
	"strings"
	"testing"

	"chcsolver/api"
	"chcsolver/term"
	"chcsolver/tree"
)

var vars = []api.Var{{Name: "x", Sort: api.SortInt}, {Name: "y", Sort: api.SortInt}, {Name: "p", Sort: api.SortBool}, {Name: "q", Sort: api.SortBool}, {Name: "r", Sort: api.SortReal}, {Name: "a", Sort: api.SortArray}, {Name: "x", Sort: api.SortBool}}

const program = `proc main(n: int, b: bool) returns (res: real) {
  var i: int;
  var m: array;
  skip;
  i := (i + 1);
  m[i] := (n % 3);
  havoc i;
  assume (b ==> (i <= n));
  if (i < n) {
    return;
  } else {
    skip;
  }
  if b {
    {
      call i := f(1, i);
    }
  }
  while (i < n) {
    call g();
    assert (res == (if b then (1.0 / 2.0) else 2.0));
  }
}
proc f(x: int, y: int) returns (z: int) {
}
proc g() {
}
`

func TestP104RoundTrip(t *testing.T) {
	p, at, e := Parse(program)
	if e != api.OK || at != 0 || !Valid(p) || Format(p) != program {
		t.Fatal(at, e, Format(p))
	}
	q, _, _ := Parse(Format(p))
	if !reflect.DeepEqual(p, q) {
		t.Error("round trip")
	}
	body := p.Procs[0].Body
	if l := Children(body, -1); !slices.Equal(l, []int{0, 1, 2, 3, 4, 5, 10, 15}) {
		t.Error(l)
	}
	if l := Children(body, 5); !slices.Equal(l, []int{6, 8}) || Children(body, 0) != nil || Children(body, -2) != nil || Children(body, len(body)) != nil || Children([]api.Stmt{{}}, -1) != nil {
		t.Error(l)
	}
	p, _, e = Parse("proc main() returns () { if true { } } // end\n")
	if e != api.OK || Format(p) != "proc main() {\n  if true {\n  }\n}\n" || len(p.Procs[0].Body) != 3 {
		t.Error(Format(p))
	}
	if p, _, e := Parse(" // nothing"); e != api.OK || len(p.Procs) != 0 || Format(p) != "" {
		t.Error(e)
	}
}

func TestP103Expressions(t *testing.T) {
	for s, want := range map[string]string{
		"x + 2 * y <= 3": "(<= (+ x (* 2 y)) 3)", "p ==> q ==> p": "(=> p (=> q p))", "p && q && p || q": "(or (and p q p) q)", "x - y - 1": "(+ x (* (- 1) y) (- 1))", "- x": "(* (- 1) x)", "--1": "1", "x * 3": "(* 3 x)", "2 * 3 * x": "", "x >= y": "(<= y x)", "x > y": "(< y x)", "x != y": "(not (= x y))", "!p == q": "(= (not p) q)",
		"1.0 / 4.0": "(/ 1.0 4.0)", "x / 2 % 3": "(mod (div x 2) 3)", "a[x]": "(select a x)", "a[x := 1][2]": "(select (store a x 1) 2)", "const(x)[y]": "(select (const x) y)", "(if p then x else y)": "(ite p x y)", "(x)[1]": "", "7 / 2": "(div 7 2)", "2 * -1": "(* 2 (- 1))",
	} {
		f, at, e := Expr(s, vars)
		if want == "" {
			if e == api.OK {
				t.Error(s)
			}
			continue
		}
		if e != api.OK || at != 0 || term.Format(f) != want {
			t.Error(s, at, e, term.Format(f))
			continue
		}
		if g, _, e := Expr(FormatExpr(f), vars); e != api.OK || !tree.Equal(f, g) {
			t.Error(s, FormatExpr(f), e)
		}
	}
	for s, want := range map[string]string{"(- (/ 1.0 2.0))": "(-(1.0 / 2.0))", "(* (- 2) x)": "((-2) * x)", "(store (const 1) x 2)": "const(1)[x := 2]", "(not (=> p q))": "(!(p ==> q))", "(+ x)": "", "(and p)": "", "(or)": "", "3.0": "3.0", "(div x 2)": "(x / 2)", "(ite p x 1)": "(if p then x else 1)"} {
		f, _, e := term.Parse(s, vars, nil)
		if e != api.OK || FormatExpr(f) != want {
			t.Error(s, FormatExpr(f))
		}
	}
	if FormatExpr(nil) != "" || FormatExpr(tree.Var("x!1", 1)) != "" || FormatExpr(tree.Var("while", 1)) != "" || FormatExpr(tree.Var("a2345678901234567", 1)) != "" || FormatExpr(tree.Node(api.Node{Op: api.OpApply, Sort: 1, Name: "f"}, tree.True())) != "" {
		t.Error("no expressions")
	}
}

func TestP103Errors(t *testing.T) {
	deep := strings.Repeat("!", api.MaxDepth)
	for _, c := range []struct {
		src string
		at  int
		e   api.Errno
	}{
		{"x * y", 2, api.ErrForm}, {"", 0, api.ErrSyntax}, {"x +", 3, api.ErrSyntax}, {"x y", 2, api.ErrSyntax}, {"x #", 2, api.ErrSyntax}, {"01", 0, api.ErrSyntax}, {"2.0x", 0, api.ErrSyntax}, {"2.", 1, api.ErrSyntax}, {"x < y < x", 6, api.ErrSyntax}, {"while", 0, api.ErrSyntax}, {"a2345678901234567", 0, api.ErrSyntax}, {"and", 0, api.ErrSyntax}, {"x & y", 2, api.ErrSyntax}, {"x = y", 2, api.ErrSyntax},
		{"x + z", 4, api.ErrName}, {"z #", 0, api.ErrName}, {"x + p #", 2, api.ErrSort}, {"x + p", 2, api.ErrSort}, {"x + y - r", 2, api.ErrSort}, {"p && x", 2, api.ErrSort}, {"p ==> x", 2, api.ErrSort}, {"p || q || x", 2, api.ErrSort}, {"x == p", 2, api.ErrSort}, {"p < q", 2, api.ErrSort}, {"!x", 0, api.ErrSort}, {"-p", 0, api.ErrSort}, {"x[1]", 1, api.ErrSort}, {"a[p]", 1, api.ErrSort}, {"a[1 := p]", 1, api.ErrSort}, {"const(p)", 0, api.ErrSort}, {"(if x then 1 else 2)", 1, api.ErrSort}, {"(if p then 1 else p)", 1, api.ErrSort},
		{"2 * r", 2, api.ErrSort}, {"p * 2", 2, api.ErrSort}, {"p * q", 2, api.ErrForm}, {"x / 0", 2, api.ErrForm}, {"x / y", 2, api.ErrForm}, {"1.0 / 0.0", 4, api.ErrForm}, {"r / 2.0", 2, api.ErrForm}, {"p % 2", 2, api.ErrForm}, {"x % -2", 2, api.ErrForm}, {deep + "p", 0, api.OK}, {deep + "!p", 0, api.ErrLimit}, {"const(z", 6, api.ErrName}, {"a[1", 3, api.ErrSyntax}, {"x + p * q", 6, api.ErrForm}, {"p + z", 4, api.ErrName}, {strings.Repeat(" ", api.MaxText+1), 0, api.ErrLimit}, {strings.Repeat("(", 60000), 60000, api.ErrSyntax},
	} {
		if f, at, e := Expr(c.src, vars); at != c.at || e != c.e || e != api.OK && f != nil {
			t.Error(c.src[:min(len(c.src), 40)], at, e)
		}
	}
	for _, v := range []api.Var{{Name: "x!1", Sort: 1}, {Name: "x"}, {Name: "var", Sort: 1}} {
		if _, at, e := Expr("#", []api.Var{v}); at != 0 || e != api.ErrInvalid {
			t.Error(v, e)
		}
	}
}

func TestP102Errors(t *testing.T) {
	locals := strings.Repeat("var x: int; ", 12)
	skips := strings.Repeat("skip;", 400)
	for _, c := range []struct {
		src string
		at  int
		e   api.Errno
	}{
		{"proc main() { skip }", 19, api.ErrSyntax}, {"x", 0, api.ErrSyntax}, {"proc main", 9, api.ErrSyntax}, {"proc if() {}", 5, api.ErrSyntax}, {"proc f(x) {}", 8, api.ErrSyntax}, {"proc f(x: foo) {}", 10, api.ErrSyntax}, {"proc f(x: int,) {}", 14, api.ErrSyntax}, {"proc f() { var x: int; skip; var y: int; }", 29, api.ErrSyntax}, {"proc f() { x := 1 }", 18, api.ErrSyntax}, {"proc f() { call := f(); }", 16, api.ErrSyntax}, {"proc f() { call x, := f(); }", 19, api.ErrSyntax},
		{"proc f() { if true skip; }", 19, api.ErrSyntax}, {"proc f() { else { } }", 11, api.ErrSyntax}, {"proc f() {", 10, api.ErrSyntax}, {"proc f() { x := z; }", 16, api.ErrName}, {"proc f() { z := 1; }", 0, api.OK}, {"proc f() { z[p] := 1; }", 13, api.ErrName}, {"proc f() { " + locals + "var y: int; }", 11 + len(locals) + 4, api.ErrLimit}, {"proc f() { " + skips + " }", 0, api.OK}, {"proc f() { " + skips + " skip }", 11 + 2000 + 1, api.ErrLimit}, {"proc f() { " + skips + " ) }", 11 + 2000 + 1, api.ErrSyntax},
		{"proc f() { " + skips[:1990] + "if true { } }", 11 + 1990, api.ErrLimit}, {"proc f() { " + skips[:1990] + "if true { } else { } }", 11 + 1990 + 17, api.ErrLimit}, {strings.Repeat("proc f() { }", 16) + "proc #", 16 * 12, api.ErrLimit}, {"proc f() " + strings.Repeat("{", 258) + strings.Repeat("}", 258), 0, api.OK}, {"proc f() " + strings.Repeat("{", 259), 9 + 258, api.ErrLimit}, {strings.Repeat("\n", api.MaxText+1), 0, api.ErrLimit},
	} {
		if p, at, e := Parse(c.src); at != c.at || e != c.e || e != api.OK && p.Procs != nil {
			t.Error(c.src[:min(len(c.src), 60)], at, e)
		}
	}
}

func TestP101Valid(t *testing.T) {
	x := tree.Var("x", api.SortInt)
	proc := func(body ...api.Stmt) api.Program {
		return api.Program{Procs: []api.Proc{{Name: "f", Body: body}}}
	}
	if !Valid(api.Program{}) || !Valid(proc(api.Stmt{Op: api.StmtCall, Names: []string{"g"}, Terms: []api.Term{x}})) || !Valid(proc(api.Stmt{Op: api.StmtAssert, Terms: []api.Term{x}})) {
		t.Error("valid")
	}
	nested := slices.Repeat([]api.Stmt{{Op: api.StmtBlock, Kids: 1}}, api.MaxDepth+1)
	for i, p := range []api.Program{
		proc(api.Stmt{}), proc(api.Stmt{Op: 12}), proc(api.Stmt{Op: api.StmtSkip, Names: []string{"x"}}), proc(api.Stmt{Op: api.StmtCall}), proc(api.Stmt{Op: api.StmtAssign, Names: []string{"x"}}), proc(api.Stmt{Op: api.StmtAssume, Terms: []api.Term{nil}}), proc(api.Stmt{Op: api.StmtHavoc, Names: []string{"int"}}), proc(api.Stmt{Op: api.StmtBlock, Kids: 1}), proc(api.Stmt{Op: api.StmtSkip, Kids: 1}, api.Stmt{Op: api.StmtSkip}),
		proc(api.Stmt{Op: api.StmtWhile, Terms: []api.Term{x}, Kids: 1}, api.Stmt{Op: api.StmtSkip}), proc(api.Stmt{Op: api.StmtIf, Terms: []api.Term{x}, Kids: 1}, api.Stmt{Op: api.StmtBlock}), proc(slices.Repeat([]api.Stmt{{Op: api.StmtSkip}}, 401)...), proc(append(slices.Clone(nested), api.Stmt{Op: api.StmtSkip})...),
		{Procs: []api.Proc{{Name: "1"}}}, {Procs: slices.Repeat([]api.Proc{{Name: "f"}}, 17)}, {Procs: []api.Proc{{Name: "f", Params: slices.Repeat([]api.Var{{Name: "x", Sort: 1}}, 13)}}}, {Procs: []api.Proc{{Name: "f", Locals: []api.Var{{Name: "x"}}}}}, {Procs: []api.Proc{{Name: "f", Results: []api.Var{{Name: "true", Sort: 1}}}}},
	} {
		if Valid(p) || Format(p) != "" {
			t.Error(i)
		}
	}
	nested[api.MaxDepth].Kids = 0
	if !Valid(proc(nested...)) {
		t.Error("depth")
	}
}
