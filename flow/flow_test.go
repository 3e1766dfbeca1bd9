package flow

import (
	"reflect"
	"slices"
	"strconv"
	"strings"
	"testing"

	"chcsolver/api"
	"chcsolver/lang"
	"chcsolver/term"
	"chcsolver/tree"
)

func build(t *testing.T, src string) []api.Graph {
	t.Helper()
	p, at, e := lang.Parse(src)
	if e != api.OK {
		t.Fatal(src, at, e)
	}
	l, e := Build(p)
	if e != api.OK || !Valid(l) {
		t.Fatal(src, e)
	}
	return l
}

func text(g api.Graph) string {
	var parts []string
	for _, e := range g.Edges {
		s := strconv.Itoa(e.From) + "-" + strconv.Itoa(e.To) + " " + strconv.Itoa(e.Cmd.Kind) + strings.Join(append([]string{""}, e.Cmd.Names...), " ")
		for _, t := range e.Cmd.Terms {
			s += " " + lang.FormatExpr(t)
		}
		if e.Cmd.Num > 0 {
			s += " #" + strconv.Itoa(e.Cmd.Num)
		}
		parts = append(parts, s)
	}
	return strings.Join(parts, "; ")
}

const loop = "proc main(n: int) { var x: int; while x < n { x := x + 1; } }"

func TestP121Build(t *testing.T) {
	for src, want := range map[string]string{
		loop: "0-2 4 (x < n); 0-1 4 (!(x < n)); 2-0 2 x (x + 1)", "proc main() { }": "0-1 1",
		"proc main() { var a: array; var x: int; havoc x; a[x] := 1; assume x == 1; assert true; assert x == 2; { skip; return; } call x := f(x); } proc f(x: int) returns (y: int) { assert false; }": "0-2 3 x; 2-3 2 a a[x := 1]; 3-4 4 (x == 1); 4-5 5 true; 5-6 5 (x == 2) #1; 6-8 1; 8-1 1; 7-1 6 f x x",
		"proc main() { var b: bool; if b { skip; b := true; } else { } skip; }": "0-3 4 b; 0-4 4 (!b); 3-5 1; 5-2 2 b true; 4-2 1; 2-1 1",
	} {
		l := build(t, src)
		got := text(l[0])
		if got != want {
			t.Error(src, got)
		}
	}
	l := build(t, "proc main(n: int) { assert true; } proc f() returns (y: int) { var z: bool; assert false; }")
	if l[1].Edges[0].Cmd.Num != 1 || l[1].Params != 0 || l[1].Results != 1 || len(l[1].Vars) != 2 || l[0].Proc != "main" || l[0].Params != 1 {
		t.Error(l)
	}
	p, _, _ := lang.Parse("proc main() { z := 1; }")
	if _, e := Build(p); e != api.ErrInvalid {
		t.Error(e)
	}
	p, _, e := lang.Parse("proc main() { if " + strings.Repeat("!", api.MaxDepth) + "true { } }")
	if _, e2 := Build(p); e != api.OK || e2 != api.ErrLimit {
		t.Error(e, e2)
	}
}

func TestP122Valid(t *testing.T) {
	call := "proc main() { var x: int; var b: bool; call x := f(1); } proc f(x: int) returns (y: int) { y := x; havoc y; assert true; }"
	for i, change := range []func(l []api.Graph){
		func(l []api.Graph) { l[0].Proc = "if" }, func(l []api.Graph) { l[0].Params = -1 }, func(l []api.Graph) { l[0].Params, l[0].Results = 2, 1 }, func(l []api.Graph) { l[0].Vars[1].Name = "x" }, func(l []api.Graph) { l[0].Vars[1].Sort = 0 }, func(l []api.Graph) { l[0].Locations = 1 }, func(l []api.Graph) { l[0].Locations = 10001 }, func(l []api.Graph) { l[0].Edges[0].To = 2 }, func(l []api.Graph) { l[0].Edges[0].From = 1 },
		func(l []api.Graph) { l[0].Edges[0].Cmd.Names[0] = "g" }, func(l []api.Graph) { l[0].Edges[0].Cmd.Names[1] = "b" }, func(l []api.Graph) { l[0].Edges[0].Cmd.Names = l[0].Edges[0].Cmd.Names[:1] }, func(l []api.Graph) { l[0].Edges[0].Cmd.Terms = nil }, func(l []api.Graph) { l[0].Edges[0].Cmd.Terms[0] = tree.True() }, func(l []api.Graph) { l[0].Edges[0].Cmd.Num = 1 }, func(l []api.Graph) { l[0].Edges[0].Cmd.Names = nil }, func(l []api.Graph) { l[0].Edges[0].Cmd.Kind = 7 },
		func(l []api.Graph) { l[1].Edges[0].Cmd.Names[0] = "x" }, func(l []api.Graph) { l[1].Edges[0].Cmd.Terms[0] = tree.True() }, func(l []api.Graph) { l[1].Edges[0].Cmd.Terms[0] = tree.Var("z", api.SortInt) }, func(l []api.Graph) { l[1].Edges[1].Cmd.Terms = []api.Term{tree.True()} }, func(l []api.Graph) { l[1].Edges[2].Cmd.Num = -1 }, func(l []api.Graph) { l[1].Edges[2].Cmd.Terms[0] = tree.Var("x", api.SortInt) }, func(l []api.Graph) { l[1].Edges[2].Cmd.Kind = api.CmdSkip },
		func(l []api.Graph) { l[0].Edges = slices.Repeat([]api.Edge{{Cmd: api.Cmd{Kind: 1}}}, 10001) }, func(l []api.Graph) { l[1].Results = 1 << 62; l[1].Params = 1 << 62 },
	} {
		l := build(t, call)
		change(l)
		if Valid(l) {
			t.Error(i)
		}
	}
	l := build(t, call)
	if Valid(slices.Repeat(l, 9)) || !Valid(slices.Repeat(l, 8)) || !Valid(nil) || Valid(l[:1]) {
		t.Error("lists")
	}
	if !slices.Equal(Out(l[1], 0), []int{0}) || Out(l[0], 1) != nil || Out(api.Graph{Edges: []api.Edge{{From: -5}, {From: 3}, {From: -5}}}, -5)[1] != 2 {
		t.Error("Out")
	}
}

func TestP123Paths(t *testing.T) {
	g := build(t, loop)[0]
	if c, e := Cutpoints(g); e != api.OK || !slices.Equal(c, []int{0, 1}) {
		t.Error(c, e)
	}
	if l, e := Paths(g, 0); e != api.OK || !reflect.DeepEqual(l, [][]int{{0, 2}, {1}}) {
		t.Error(l, e)
	}
	if l, e := Paths(g, 1); e != api.OK || len(l) != 0 {
		t.Error(l, e)
	}
	for _, from := range []int{2, -1, 99} {
		if _, e := Paths(g, from); e != api.ErrForm {
			t.Error(e)
		}
	}
	g.Edges[0].To = 9
	_, e := Cutpoints(g)
	_, e2 := Paths(g, 0)
	_, _, _, e3 := Effect(g, []int{0})
	if e != api.ErrInvalid || e2 != api.ErrInvalid || e3 != api.ErrInvalid {
		t.Error(e, e2, e3)
	}
	branches := func(n int) string {
		return "proc main() { " + strings.Repeat("if true { } ", n) + "}"
	}
	if l, e := Paths(build(t, branches(8))[0], 0); e != api.OK || len(l) != 256 || !slices.IsSortedFunc(l, slices.Compare[[]int]) {
		t.Error(e)
	}
	if _, e := Paths(build(t, branches(60))[0], 0); e != api.ErrLimit {
		t.Error(e)
	}
	// A ladder of ways that end nowhere, beside one that leads to the exit.
	ladder := api.Graph{Proc: "f", Locations: 63, Edges: []api.Edge{{From: 0, To: 1, Cmd: api.Cmd{Kind: 1}}, {From: 0, To: 2, Cmd: api.Cmd{Kind: 1}}}}
	for i := 2; i < 62; i++ {
		ladder.Edges = append(ladder.Edges, api.Edge{From: i, To: i + 1, Cmd: api.Cmd{Kind: 1}}, api.Edge{From: i, To: i + 1, Cmd: api.Cmd{Kind: 1}})
	}
	if l, e := Paths(ladder, 0); e != api.OK || !reflect.DeepEqual(l, [][]int{{0}}) {
		t.Error(l, e)
	}
	g = build(t, "proc main() { skip; call main(); skip; skip; }")[0]
	if c, _ := Cutpoints(g); !slices.Equal(c, []int{0, 1, 2, 3}) {
		t.Error(c)
	}
}

func TestP124Effect(t *testing.T) {
	g := build(t, "proc main(n: int) { var x: int; var y: int; havoc x; assume x < n; y := x + 1; havoc x; assert x < y; x := 2; call main(1); }")[0]
	c, s, in, e := Effect(g, []int{0, 1, 2, 3, 4})
	if e != api.OK || term.Format(c) != "(and (< x!1 n) (< x!2 (+ x!1 1)))" || len(in) != 2 || in[1].Name != "x!2" || in[1].Sort != api.SortInt {
		t.Error(term.Format(c), in, e)
	}
	if len(s) != 3 || s[0].Name != "n" || term.Format(s[0].Term) != "n" || term.Format(s[1].Term) != "x!2" || term.Format(s[2].Term) != "(+ x!1 1)" {
		t.Error(s)
	}
	if c, s, in, e := Effect(g, []int{5}); e != api.OK || term.Format(c) != "true" || len(in) != 0 || term.Format(s[1].Term) != "2" {
		t.Error(e)
	}
	if c, _, _, e := Effect(g, []int{1}); e != api.OK || term.Format(c) != "(< x n)" {
		t.Error(e)
	}
	for _, edges := range [][]int{nil, {-1}, {99}, {0, 2}, {5, 6}} {
		if _, _, _, e := Effect(g, edges); e != api.ErrForm {
			t.Error(edges, e)
		}
	}
	g = build(t, "proc main() { var x: int; "+strings.Repeat("x := x + x; ", 20)+"}")[0]
	var all []int
	for i := range g.Edges {
		all = append(all, i)
	}
	if _, _, _, e := Effect(g, all); e != api.ErrLimit {
		t.Error(e)
	}
}
