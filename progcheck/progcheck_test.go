package progcheck

import (
	"reflect"
	"slices"
	"testing"

	"chcsolver/api"
	"chcsolver/lang"
	"chcsolver/tree"
)

func parse(t *testing.T, src string) api.Program {
	t.Helper()
	p, at, e := lang.Parse(src)
	if e != api.OK {
		t.Fatal(src, at, e)
	}
	return p
}

func TestP111Check(t *testing.T) {
	for src, want := range map[string][]api.Diag{
		"proc main(n: int) { n := 1; }": {{Where: 0, Code: 6}}, "proc f() { }": {{Where: -1, Code: 1}, {Where: 999, Code: 7}}, "proc main() { }": nil, "proc main() { } proc main() { } proc f(x: int) returns (x: int) { call main(); }": {{Where: 1999, Code: 2}, {Where: 1999, Code: 7}, {Where: 2999, Code: 2}, {Where: 2999, Code: 7}},
		"proc main() { z := 1; havoc y; call f(); call z := main(); }": {{Where: 0, Code: 3}, {Where: 1, Code: 3}, {Where: 2, Code: 3}, {Where: 3, Code: 3}, {Where: 3, Code: 5}},
		"proc main() { var x: int; var b: bool; var a: array; x := true; b := false; assume x; if x { } while x { } assert 1; x[1] := 2; a[b] := 1; a[1] := b; a[1] := 1; }":                                                                             {{Where: 0, Code: 4}, {Where: 2, Code: 4}, {Where: 3, Code: 4}, {Where: 6, Code: 4}, {Where: 8, Code: 4}, {Where: 9, Code: 4}, {Where: 10, Code: 4}, {Where: 11, Code: 4}},
		"proc main() { var x: int; var y: int; var b: bool; call x, x := f(1); call x := f(1); call x, b := f(1); call x, y := f(b); call x, y := f(1, b); call b := f(b, b); } proc f(n: int) returns (u: int, v: int) { havoc n; call n, n := f(n); }": {{Where: 0, Code: 6}, {Where: 1, Code: 5}, {Where: 2, Code: 4}, {Where: 3, Code: 4}, {Where: 4, Code: 5}, {Where: 5, Code: 4}, {Where: 5, Code: 5}, {Where: 1000, Code: 6}, {Where: 1001, Code: 6}},
		"proc main() { if true { return; skip; { skip; } } return; skip; skip; }": {{Where: 3, Code: 8}, {Where: 4, Code: 8}, {Where: 8, Code: 8}, {Where: 9, Code: 8}},
	} {
		p := parse(t, src)
		if got := Check(p); !slices.Equal(got, want) {
			t.Error(src, got)
		}
		bad := slices.ContainsFunc(want, func(d api.Diag) bool { return d.Code < 7 })
		if Accepts(p) == bad {
			t.Error(src, "Accepts")
		}
	}
	wrong := parse(t, "proc main() { var x: int; assume true; }")
	wrong.Procs[0].Body[0].Terms = []api.Term{tree.Var("x", api.SortBool)}
	if got := Check(wrong); !slices.Equal(got, []api.Diag{{Where: 0, Code: 4}}) {
		t.Error(got)
	}
	wrong.Procs[0].Body[0].Terms = []api.Term{tree.Eq(tree.Var("y", api.SortInt), tree.Var("y", api.SortInt))}
	if got := Check(wrong); !slices.Equal(got, []api.Diag{{Where: 0, Code: 3}}) {
		t.Error(got)
	}
}

func TestP111P112NotValid(t *testing.T) {
	p := api.Program{Procs: []api.Proc{{Name: "1"}}}
	if got := Check(p); !slices.Equal(got, []api.Diag{{Where: -1, Code: 1}}) || Accepts(p) || Calls(p) != nil || Reachable(p) != nil || Recursive(p) != nil || Assertions(p) != nil {
		t.Error(got)
	}
}

func TestP113Calls(t *testing.T) {
	p := parse(t, "proc f() { assert true; call g(); } proc main() { call f(); call f(); call nothing(); if true { assert false; } } proc g() { call f(); } proc h() { call h(); call main(); assert true; }")
	if c := Calls(p); !reflect.DeepEqual(c, [][]int{{2}, {0}, {0}, {1, 3}}) {
		t.Error(c)
	}
	if r := Reachable(p); !slices.Equal(r, []bool{true, true, true, false}) {
		t.Error(r)
	}
	if r := Recursive(p); !slices.Equal(r, []bool{true, false, true, true}) {
		t.Error(r)
	}
	if a := Assertions(p); !slices.Equal(a, []int{0, 1005, 3002}) {
		t.Error(a)
	}
}
