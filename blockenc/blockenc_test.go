package blockenc

import (
	"math/rand"
	"slices"
	"strconv"
	"strings"
	"testing"

	"chcsolver/api"
	"chcsolver/certificate"
	"chcsolver/lang"
	"chcsolver/machine"
	"chcsolver/stepenc"
	"chcsolver/system"
	"chcsolver/term"
	"chcsolver/tree"
	"chcsolver/value"
)

func parse(t *testing.T, src string) api.Program {
	t.Helper()
	p, at, e := lang.Parse(src)
	if e != api.OK {
		t.Fatal(src, at, e)
	}
	return p
}

func nums(l ...int) []api.Value {
	var vals []api.Value
	for _, n := range l {
		vals = append(vals, api.Value{Sort: api.SortInt, Num: strconv.Itoa(n)})
	}
	return vals
}

var programs = []string{
	"proc main(n: int) { assert (0 <= n); }",
	"proc main(n: int) { var x: int; while x < n { havoc x; assert x < 3; x := x + 1; } assert x < 5; }",
	"proc main(n: int) { var x: int; var y: int; call x, y := f(n); assert x < 4; call y := g(x, y); assert y != 3; } proc f(a: int) returns (u: int, v: int) { var z: int; havoc z; u := a + z; if u > 2 { call v := g(u, z); return; } v := u; } proc g(a: int, b: int) returns (c: int) { havoc c; assert c + a != 3; if b > 0 { call c := g(a, b - 1); } }",
	"proc main(n: int) { var a: array; var b: bool; var i: int; while i < n { a[i] := i * 2; i := i + 1; } havoc b; assert b || a[1] != 2; call main2(a); } proc main2(a: array) { skip; assert a[0] == 0 && a[2] != 4; }",
}

func TestP151Encode(t *testing.T) {
	s, o, e := Encode(parse(t, "proc main(n: int) { var i: int; while (i < n) { i := i + 1; } assert (i <= n); }"))
	text := system.Format(s)
	if e != api.OK || len(o) != 5 || len(s.Preds) != 3 {
		t.Fatal(text, o, e)
	}
	at := 0
	for _, line := range []string{
		"(assert (forall ((n Int)) (=> (and true) (main.in n))))", "(assert (forall ((n Int)) (=> (and true) (main.0 n 0))))", "(assert (forall ((n Int) (i Int)) (=> (and (main.0 n i) (< i n)) (main.0 n (+ i 1)))))", "(assert (forall ((n Int) (i Int)) (=> (and (main.in n) (main.0 n i) (and (not (< i n)) (not (<= i n)))) false)))", "(assert (forall ((n Int) (i Int)) (=> (and (main.0 n i) (and (not (< i n)) (<= i n))) (main.1 n i))))",
	} {
		k := strings.Index(text, line)
		if k < at {
			t.Error(line, text)
		}
		at = k
	}
	if o[3].Kind != api.OriginAssert || !slices.Equal(o[3].Edges, []int{1, 3}) || o[4].Kind != api.OriginPath || !slices.Equal(o[4].Edges, []int{1, 3}) || !slices.Equal(o[2].Edges, []int{0, 2}) {
		t.Error(o)
	}
	s, o, e = Encode(parse(t, "proc main() { var x: int; assert x == 0; havoc x; if x == 1 { call x := f(); } else { assert x == 2; } } proc f() returns (r: int) { }"))
	text = system.Format(s)
	if e != api.OK || o[2].Kind != api.OriginAssert || len(o[2].Edges) != 1 {
		t.Fatal(o, e)
	}
	for _, line := range []string{"(=> (and main.in (main.0 x) (and true (not (= x 0)))) false)", "(forall ((x Int) (x!1 Int)) (=> (and (main.0 x) (and (= x 0) (= x!1 1))) (main.4 x!1)))", "(forall ((x Int) (x!1 Int)) (=> (and main.in (main.0 x) (and (and (= x 0) (not (= x!1 1))) (not (= x!1 2)))) false))", "(=> (and main.in (main.4 x) true) f.in)", "(forall ((x Int) (r Int)) (=> (and (main.4 x) (f.1 r) true) (main.1 r)))"} {
		if !strings.Contains(text, line) {
			t.Error(line, text)
		}
	}
	if strings.Count(text, "false)))") != 2 {
		t.Error("each beginning has one query", text)
	}
	if _, _, e := Encode(parse(t, "proc f() { }")); e != api.ErrInvalid {
		t.Error(e)
	}
	if _, _, e := Encode(parse(t, "proc main() { "+strings.Repeat("if true { } ", 60)+"}")); e != api.ErrLimit {
		t.Error(e)
	}
	if _, _, e := Encode(parse(t, "proc main() { var x: int; "+strings.Repeat("x := x + x; ", 20)+"}")); e != api.ErrLimit {
		t.Error(e)
	}
}

// TestP152Runs compares failing runs with their trees.
func TestP152Runs(t *testing.T) {
	r := rand.New(rand.NewSource(5))
	for _, src := range programs {
		p := parse(t, src)
		s, _, e := Encode(p)
		if e != api.OK {
			t.Fatal(e)
		}
		failed := 0
		for range 60 {
			args := nums(r.Intn(7) - 1)
			var inputs []api.Value
			for range r.Intn(6) {
				inputs = append(inputs, nums(r.Intn(6)-1)...)
			}
			m, _ := machine.New(p, args, inputs)
			status := m.Run(500)
			d, e := Tree(p, args, inputs, 500)
			if status != api.StatusFailed {
				if e != api.ErrForm {
					t.Fatal(e)
				}
				continue
			}
			failed++
			if e != api.OK || !certificate.Refutes(s, d) {
				t.Fatal(src, e, certificate.CheckTree(s, d))
			}
			a, in, e := Inputs(p, d)
			m2, e2 := machine.New(p, a, in)
			if e != api.OK || e2 != api.OK || m2.Run(500) != api.StatusFailed || !slices.Equal(m.Trace(), m2.Trace()) || m.State().Failed != m2.State().Failed || len(in) != m.State().Used {
				t.Fatal(src, e, e2)
			}
		}
		if failed == 0 {
			t.Error("no run failed", src)
		}
	}
}

func TestP152Errors(t *testing.T) {
	p, bad := parse(t, programs[0]), parse(t, "proc f() { }")
	if _, _, e := Inputs(bad, nil); e != api.ErrInvalid {
		t.Error(e)
	}
	if _, _, e := Inputs(p, api.Tree{{Clause: 0, Values: nums(1)}}); e != api.ErrProof {
		t.Error(e)
	}
	if _, e := Tree(bad, nil, nil, 1); e != api.ErrInvalid {
		t.Error(e)
	}
	if _, e := Tree(p, nil, nil, 1); e != api.ErrInvalid {
		t.Error(e)
	}
	if _, e := Tree(p, []api.Value{{Sort: api.SortBool}}, nil, 1); e != api.ErrSort {
		t.Error(e)
	}
	if _, e := Tree(p, nums(-1), nil, 0); e != api.ErrForm {
		t.Error(e)
	}
	long := parse(t, "proc main(n: int) { var i: int; while i < n { i := i + 1; } assert false; }")
	if d, e := Tree(long, nums(2000), nil, 100000); e != api.OK || len(d) < 2000 {
		t.Error(e, len(d))
	}
	if _, e := Tree(long, nums(5000), nil, 100000); e != api.ErrLimit {
		t.Error(e)
	}
}

func TestP153Invariants(t *testing.T) {
	p := parse(t, "proc main(n: int) { skip; while n < 3 { skip; } }")
	s, _, _ := Encode(p)
	var m api.Model
	for i, f := range s.Preds {
		z := api.Var{Name: "z", Sort: api.SortInt}
		m.Defs = append(m.Defs, api.Def{Pred: f.Name, Params: []api.Var{z}, Body: tree.Le(tree.Num(strconv.Itoa(i), api.SortInt), tree.Of(z))})
	}
	l, e := Invariants(p, m)
	if e != api.OK || len(l) != 1 || len(l[0]) != 4 || term.Format(l[0][0]) != "(<= 1 n)" || term.Format(l[0][1]) != "(<= 2 n)" || term.Format(l[0][2]) != "(<= 3 n)" || term.Format(l[0][3]) != "true" {
		t.Error(l, e)
	}
	if _, e := Invariants(p, api.Model{}); e != api.ErrInvalid {
		t.Error(e)
	}
	if _, e := Invariants(parse(t, "proc f() { }"), m); e != api.ErrInvalid {
		t.Error(e)
	}
}

// TestP152SameInputs compares the inputs of a run in two encodings.
func TestP152SameInputs(t *testing.T) {
	p := parse(t, programs[2])
	for n := range 5 {
		d, e := Tree(p, nums(n), nums(3, 1, 2), 500)
		d2, e2 := stepenc.Tree(p, nums(n), nums(3, 1, 2), 500)
		if e != e2 {
			t.Fatal(e, e2)
		}
		if e != api.OK {
			continue
		}
		a, in, _ := Inputs(p, d)
		a2, in2, _ := stepenc.Inputs(p, d2)
		if !slices.EqualFunc(a, a2, value.Equal) || !slices.EqualFunc(in, in2, value.Equal) {
			t.Error(n, in, in2)
		}
	}
}
