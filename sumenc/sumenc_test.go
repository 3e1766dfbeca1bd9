package sumenc

import (
	"math/rand"
	"slices"
	"strconv"
	"strings"
	"testing"

	"chcsolver/api"
	"chcsolver/certificate"
	"chcsolver/lang"
	"chcsolver/machine"
	"chcsolver/stepenc"
	"chcsolver/system"
	"chcsolver/tree"
	"chcsolver/value"
)

func parse(t *testing.T, src string) api.Program {
	t.Helper()
	p, at, e := lang.Parse(src)
	if e != api.OK {
		t.Fatal(src, at, e)
	}
	return p
}

func nums(l ...int) []api.Value {
	var vals []api.Value
	for _, n := range l {
		vals = append(vals, api.Value{Sort: api.SortInt, Num: strconv.Itoa(n)})
	}
	return vals
}

var programs = []string{
	"proc main(n: int) { assert (0 <= n); }",
	"proc main(n: int) { var x: int; while x < n { havoc x; assert x < 3; x := x + 1; } assert x < 5; }",
	"proc main(n: int) { var x: int; var y: int; call x, y := f(n); assert x < 4; call y := g(x, y); assert y != 3; } proc f(a: int) returns (u: int, v: int) { var z: int; havoc z; u := a + z; if u > 2 { call v := g(u, z); return; } v := u; } proc g(a: int, b: int) returns (c: int) { havoc c; assert c + a != 3; if b > 0 { call c := g(a, b - 1); } }",
	"proc main(n: int) { var a: array; var b: bool; var i: int; while i < n { a[i] := i * 2; i := i + 1; } havoc b; assert b || a[1] != 2; call main2(a); } proc main2(a: array) { skip; assert a[0] == 0 && a[2] != 4; }",
}

func TestP161Encode(t *testing.T) {
	s, o, e := Encode(parse(t, programs[0]))
	want := "(set-logic HORN)\n(declare-fun main.sum (Int Int) Bool)\n(declare-fun main.0 (Int Int) Bool)\n(assert (forall ((n Int) (e Int)) (=> (and (main.sum n e) (not (= e 0))) false)))\n(assert (forall ((n Int) (e Int)) (=> (and (main.0 n e) true) (main.sum n e))))\n(assert (forall ((n Int) (e Int)) (=> (and (and true (not (<= 0 n)))) (main.0 n 1))))\n(assert (forall ((n Int) (e Int)) (=> (and (<= 0 n)) (main.0 n 0))))\n(check-sat)\n"
	if e != api.OK || system.Format(s) != want || len(o) != 4 || o[0].Kind != api.OriginMain || o[1].Kind != api.OriginBody || o[2].Kind != api.OriginAssert || o[3].Kind != api.OriginPath || !slices.Equal(o[3].Edges, []int{0}) {
		t.Error(system.Format(s), o, e)
	}
	s, o, e = Encode(parse(t, "proc f(e: int) returns (r: int) { while r < e { havoc r; call r := g(r); assert r == 1; call r := g(e); } } proc g(x: int) returns (r: int) { } proc main() { }"))
	text := system.Format(s)
	if e != api.OK || o[0].Proc != 2 || o[2].Kind != api.OriginCall || o[3].Kind != api.OriginAssert || o[4].Kind != api.OriginCall || o[5].Kind != api.OriginPath {
		t.Fatal(o, e)
	}
	for _, line := range []string{
		"(=> (and (f.0 e 0 r!1 e!1) true) (f.sum e r!1 e!1))", "(forall ((e Int) (r Int) (r!1 Int) (e!1 Int) (r!2 Int) (r!3 Int)) (=> (and (g.sum r!2 r!3 e!1) (and (< r e) (not (= e!1 0)))) (f.0 e r 0 e!1)))",
		"(=> (and (g.sum r!2 r!3 0) (and (< r e) (not (= r!3 1)))) (f.0 e r 0 1))", "(forall ((e Int) (r Int) (r!1 Int) (e!1 Int) (r!2 Int) (r!3 Int) (r!4 Int)) (=> (and (g.sum r!2 r!3 0) (g.sum e r!4 e!1) (and (and (< r e) (= r!3 1)) (not (= e!1 0)))) (f.0 e r 0 e!1)))",
		"(=> (and (g.sum r!2 r!3 0) (g.sum e r!4 0) (f.0 e r!4 r!1 e!1) (and (< r e) (= r!3 1))) (f.0 e r r!1 e!1))", "(=> (and (not (< r e))) (f.0 e r r 0))",
	} {
		if !strings.Contains(text, line) {
			t.Error(line, text)
		}
	}
	if _, _, e := Encode(parse(t, "proc f() { }")); e != api.ErrInvalid {
		t.Error(e)
	}
	for _, body := range []string{strings.Repeat("if true { } ", 60), "var x: int; " + strings.Repeat("x := x + x; ", 20), strings.Repeat("call main(); ", 9)} {
		if _, _, e := Encode(parse(t, "proc main() { "+body+"}")); e != api.ErrLimit {
			t.Error(body, e)
		}
	}
}

// TestP162P163Runs compares failing runs with their trees.
func TestP162P163Runs(t *testing.T) {
	r := rand.New(rand.NewSource(5))
	for _, src := range programs {
		p := parse(t, src)
		s, _, e := Encode(p)
		if e != api.OK {
			t.Fatal(e)
		}
		failed := 0
		for range 60 {
			args := nums(r.Intn(7) - 1)
			var inputs []api.Value
			for range r.Intn(6) {
				inputs = append(inputs, nums(r.Intn(6)-1)...)
			}
			m, _ := machine.New(p, args, inputs)
			status := m.Run(500)
			d, e := Tree(p, args, inputs, 500)
			if status != api.StatusFailed {
				if e != api.ErrForm {
					t.Fatal(e)
				}
				continue
			}
			failed++
			if e != api.OK || !certificate.Refutes(s, d) {
				t.Fatal(src, e, certificate.CheckTree(s, d))
			}
			a, in, e := Inputs(p, d)
			m2, e2 := machine.New(p, a, in)
			if e != api.OK || e2 != api.OK || m2.Run(500) != api.StatusFailed || !slices.Equal(m.Trace(), m2.Trace()) || m.State().Failed != m2.State().Failed || len(in) != m.State().Used {
				t.Fatal(src, e, e2)
			}
		}
		if failed == 0 {
			t.Error("no run failed", src)
		}
	}
}

func TestP162P163Errors(t *testing.T) {
	p, bad := parse(t, programs[0]), parse(t, "proc f() { }")
	if _, _, e := Inputs(bad, nil); e != api.ErrInvalid {
		t.Error(e)
	}
	if _, _, e := Inputs(p, api.Tree{{Clause: 0, Values: nums(1)}}); e != api.ErrProof {
		t.Error(e)
	}
	if _, e := Tree(bad, nil, nil, 1); e != api.ErrInvalid {
		t.Error(e)
	}
	if _, e := Tree(p, nil, nil, 1); e != api.ErrInvalid {
		t.Error(e)
	}
	if _, e := Tree(p, []api.Value{{Sort: api.SortBool}}, nil, 1); e != api.ErrSort {
		t.Error(e)
	}
	if _, e := Tree(p, nums(-1), nil, 0); e != api.ErrForm {
		t.Error(e)
	}
	long := parse(t, "proc main(n: int) { var i: int; while i < n { i := i + 1; } assert false; }")
	if d, e := Tree(long, nums(2000), nil, 100000); e != api.OK || len(d) < 2000 {
		t.Error(e, len(d))
	}
	if _, e := Tree(long, nums(5000), nil, 100000); e != api.ErrLimit {
		t.Error(e)
	}
}

func TestP164Invariants(t *testing.T) {
	p := parse(t, "proc main(e: int) returns (r: bool) { skip; while e < 3 { skip; } }")
	s, _, _ := Encode(p)
	var m api.Model
	for i, f := range s.Preds {
		d := api.Def{Pred: f.Name, Body: tree.Bool(i == 9)}
		for k, sort := range f.Args {
			v := api.Var{Name: "z" + strconv.Itoa(k), Sort: sort}
			d.Params = append(d.Params, v)
			d.Body = tree.And(d.Body, tree.Eq(tree.Of(v), tree.Of(v)))
		}
		m.Defs = append(m.Defs, d)
	}
	l, e := Invariants(p, m)
	if e != api.OK || len(l) != 1 || len(l[0]) != 3 || !slices.Equal(tree.Names(tree.Vars(l[0][0])), []string{"e", "r", "e!1"}) || !slices.Equal(tree.Names(tree.Vars(l[0][2])), []string{"e", "r", "r!1", "e!1"}) {
		t.Error(l, e)
	}
	if _, e := Invariants(p, api.Model{}); e != api.ErrInvalid {
		t.Error(e)
	}
	if _, e := Invariants(parse(t, "proc f() { }"), m); e != api.ErrInvalid {
		t.Error(e)
	}
}

// TestP162SameInputs compares the inputs of a run in two encodings.
func TestP162SameInputs(t *testing.T) {
	p := parse(t, programs[2])
	for n := range 5 {
		d, e := Tree(p, nums(n), nums(3, 1, 2), 500)
		d2, e2 := stepenc.Tree(p, nums(n), nums(3, 1, 2), 500)
		if e != e2 {
			t.Fatal(e, e2)
		}
		if e != api.OK {
			continue
		}
		a, in, _ := Inputs(p, d)
		a2, in2, _ := stepenc.Inputs(p, d2)
		if !slices.EqualFunc(a, a2, value.Equal) || !slices.EqualFunc(in, in2, value.Equal) {
			t.Error(n, in, in2)
		}
	}
}
