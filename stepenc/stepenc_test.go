package stepenc

import (
	"math/rand"
	"slices"
	"strconv"
	"strings"
	"testing"

	"chcsolver/api"
	"chcsolver/certificate"
	"chcsolver/flow"
	"chcsolver/lang"
	"chcsolver/machine"
	"chcsolver/system"
	"chcsolver/term"
	"chcsolver/tree"
)

func parse(t *testing.T, src string) api.Program {
	t.Helper()
	p, at, e := lang.Parse(src)
	if e != api.OK {
		t.Fatal(src, at, e)
	}
	return p
}

func nums(l ...int) []api.Value {
	var vals []api.Value
	for _, n := range l {
		vals = append(vals, api.Value{Sort: api.SortInt, Num: strconv.Itoa(n)})
	}
	return vals
}

var programs = []string{
	"proc main(n: int) { assert (0 <= n); }",
	"proc main(n: int) { var x: int; while x < n { havoc x; assert x < 3; x := x + 1; } assert x < 5; }",
	"proc main(n: int) { var x: int; var y: int; call x, y := f(n); assert x < 4; call y := g(x, y); assert y != 3; } proc f(a: int) returns (u: int, v: int) { var z: int; havoc z; u := a + z; if u > 2 { call v := g(u, z); return; } v := u; } proc g(a: int, b: int) returns (c: int) { havoc c; assert c + a != 3; if b > 0 { call c := g(a, b - 1); } }",
	"proc main(n: int) { var a: array; var b: bool; var i: int; while i < n { a[i] := i * 2; i := i + 1; } havoc b; assert b || a[1] != 2; call main2(a); } proc main2(a: array) { skip; assert a[0] == 0 && a[2] != 4; }",
}

func TestP141Encode(t *testing.T) {
	s, o, e := Encode(parse(t, programs[0]))
	want := "(set-logic HORN)\n(declare-fun main.in (Int) Bool)\n(declare-fun main.0 (Int) Bool)\n(declare-fun main.1 (Int) Bool)\n(assert (forall ((n Int)) (=> (and true) (main.in n))))\n(assert (forall ((n Int)) (=> (and true) (main.0 n))))\n(assert (forall ((n Int)) (=> (and (main.0 n) (<= 0 n)) (main.1 n))))\n(assert (forall ((n Int)) (=> (and (main.in n) (main.0 n) (not (<= 0 n))) false)))\n(check-sat)\n"
	if e != api.OK || system.Format(s) != want || len(o) != 4 || o[3].Kind != api.OriginAssert || !slices.Equal(o[2].Edges, []int{0}) || o[0].Kind != api.OriginMain || o[1].Kind != api.OriginEntry || len(o[1].Edges) != 0 {
		t.Error(system.Format(s), o, e)
	}
	s, o, e = Encode(parse(t, "proc f(a: int) returns (x: int) { var x1: bool; havoc x1; } proc main(n: int) { var x: int; x := x + n; call x := f(x); skip; assume x < n; }"))
	if e != api.OK || o[0].Proc != 1 || o[5].Kind != api.OriginCall {
		t.Fatal(o, e)
	}
	text := system.Format(s)
	for _, line := range []string{
		"(assert (forall ((a Int)) (=> (and true) (f.0 a 0 false))))", "(assert (forall ((a Int) (x Int) (x1 Bool) (x1!1 Bool)) (=> (and (f.0 a x x1) true) (f.1 a x x1!1))))", "(assert (forall ((n Int)) (=> (and true) (main.0 n 0))))", "(assert (forall ((n Int) (x Int)) (=> (and (main.0 n x) true) (main.2 n (+ x n)))))",
		"(assert (forall ((n Int) (x Int)) (=> (and (main.in n) (main.2 n x) true) (f.in x))))", "(assert (forall ((n Int) (x Int) (x!1 Int) (x1 Bool)) (=> (and (main.2 n x) (f.1 x x!1 x1) true) (main.3 n x!1))))", "(assert (forall ((n Int) (x Int)) (=> (and (main.4 n x) (< x n)) (main.1 n x))))",
	} {
		if !strings.Contains(text, line) {
			t.Error(line, text)
		}
	}
	if _, _, e := Encode(parse(t, "proc f() { }")); e != api.ErrInvalid {
		t.Error(e)
	}
	if _, _, e := Encode(parse(t, "proc main() { assert "+strings.Repeat("!", api.MaxDepth)+"true; }")); e != api.ErrLimit {
		t.Error(e)
	}
}

// TestP142P143Runs compares failing runs with their trees.
func TestP142P143Runs(t *testing.T) {
	r := rand.New(rand.NewSource(5))
	for _, src := range programs {
		p := parse(t, src)
		s, _, e := Encode(p)
		if e != api.OK {
			t.Fatal(e)
		}
		failed := 0
		for range 60 {
			args := nums(r.Intn(7) - 1)
			var inputs []api.Value
			for range r.Intn(6) {
				inputs = append(inputs, nums(r.Intn(6)-1)...)
			}
			m, _ := machine.New(p, args, inputs)
			status := m.Run(500)
			d, e := Tree(p, args, inputs, 500)
			if status != api.StatusFailed {
				if e != api.ErrForm {
					t.Fatal(e)
				}
				continue
			}
			failed++
			if e != api.OK || !certificate.Refutes(s, d) {
				t.Fatal(src, e, certificate.CheckTree(s, d))
			}
			a, in, e := Inputs(p, d)
			m2, e2 := machine.New(p, a, in)
			if e != api.OK || e2 != api.OK || m2.Run(500) != api.StatusFailed || !slices.Equal(m.Trace(), m2.Trace()) || m.State().Failed != m2.State().Failed || len(in) != m.State().Used {
				t.Fatal(src, e, e2)
			}
		}
		if failed == 0 {
			t.Error("no run failed", src)
		}
	}
}

func TestP142P143Errors(t *testing.T) {
	p, bad := parse(t, programs[0]), parse(t, "proc f() { }")
	if _, _, e := Inputs(bad, nil); e != api.ErrInvalid {
		t.Error(e)
	}
	if _, _, e := Inputs(p, api.Tree{{Clause: 0, Values: nums(1)}}); e != api.ErrProof {
		t.Error(e)
	}
	if _, e := Tree(bad, nil, nil, 1); e != api.ErrInvalid {
		t.Error(e)
	}
	if _, e := Tree(p, nil, nil, 1); e != api.ErrInvalid {
		t.Error(e)
	}
	if _, e := Tree(p, []api.Value{{Sort: api.SortBool}}, nil, 1); e != api.ErrSort {
		t.Error(e)
	}
	if _, e := Tree(p, nums(-1), nil, 0); e != api.ErrForm {
		t.Error(e)
	}
	long := parse(t, "proc main(n: int) { var i: int; while i < n { i := i + 1; } assert false; }")
	if d, e := Tree(long, nums(2000), nil, 100000); e != api.OK || len(d) < 4000 {
		t.Error(e, len(d))
	}
	if _, e := Tree(long, nums(3000), nil, 100000); e != api.ErrLimit {
		t.Error(e)
	}
}

func TestP144Invariants(t *testing.T) {
	p := parse(t, programs[0])
	s, _, _ := Encode(p)
	var m api.Model
	for i, f := range s.Preds {
		z := api.Var{Name: "z", Sort: api.SortInt}
		m.Defs = append(m.Defs, api.Def{Pred: f.Name, Params: []api.Var{z}, Body: tree.Le(tree.Num(strconv.Itoa(i), api.SortInt), tree.Of(z))})
	}
	l, e := Invariants(p, m)
	if e != api.OK || len(l) != 1 || len(l[0]) != 2 || term.Format(l[0][0]) != "(<= 1 n)" || term.Format(l[0][1]) != "(<= 2 n)" {
		t.Error(l, e)
	}
	if _, e := Invariants(p, api.Model{}); e != api.ErrInvalid {
		t.Error(e)
	}
	if _, e := Invariants(parse(t, "proc f() { }"), m); e != api.ErrInvalid {
		t.Error(e)
	}
	if g, e := flow.Build(p); e != api.OK || len(g) != 1 {
		t.Error(e)
	}
}
