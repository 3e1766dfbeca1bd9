package machine

import (
	"slices"
	"testing"

	"chcsolver/api"
	"chcsolver/lang"
)

func parse(t *testing.T, src string) api.Program {
	t.Helper()
	p, at, e := lang.Parse(src)
	if e != api.OK {
		t.Fatal(src, at, e)
	}
	return p
}

func nums(l ...string) []api.Value {
	var vals []api.Value
	for _, s := range l {
		vals = append(vals, api.Value{Sort: api.SortInt, Num: s})
	}
	return vals
}

func TestP131New(t *testing.T) {
	p := parse(t, "proc f() { } proc main(n: int) { }")
	if m, e := New(p, nums("3"), nil); e != api.OK || m.State().Status != api.StatusRunning || m.State().Frames[0].Proc != 1 || m.State().Failed != -1 {
		t.Error(e)
	}
	for i, c := range []struct {
		p            api.Program
		args, inputs []api.Value
		e            api.Errno
	}{{parse(t, "proc f() { }"), nil, nums("x"), api.ErrInvalid}, {p, nil, nil, api.ErrInvalid}, {p, nums("x"), nil, api.ErrInvalid}, {p, nums("1"), nums("x"), api.ErrInvalid}, {p, []api.Value{{Sort: api.SortReal, Num: "1"}}, nil, api.ErrSort}, {p, []api.Value{{Sort: api.SortReal, Num: "1"}}, nums(""), api.ErrInvalid}} {
		if m, e := New(c.p, c.args, c.inputs); e != c.e || m != nil {
			t.Error(i, e)
		}
	}
}

func TestP132Commands(t *testing.T) {
	p := parse(t, "proc main(n: int) { var x: int; havoc x; assert (x <= n); }")
	m, _ := New(p, nums("3"), nums("5", "6"))
	if s := m.Run(10); s != api.StatusFailed || m.State().Used != 1 || m.State().Failed != 0 || !slices.Equal(m.Trace(), []int{0}) || m.Step() != s {
		t.Error(s, m.State())
	}
	m, _ = New(p, nums("3"), []api.Value{{Sort: api.SortBool, Bool: true}})
	if m.Run(10) != api.StatusFinished || m.State().Used != 1 || m.State().Frames[0].Values[1].Num != "0" || m.State().Frames[0].At != 1 {
		t.Error(m.State())
	}
	m, _ = New(p, nums("-3"), nil)
	if m.Run(10) != api.StatusFailed || m.State().Used != 1 {
		t.Error(m.State())
	}
	m, _ = New(parse(t, "proc main() { var a: array; a[2] := 5; assume a[2] == 5; skip; assume a[1] == 1; }"), nil, nil)
	if m.Run(100) != api.StatusBlocked || len(m.Trace()) != 3 || m.State().Frames[0].Values[0].Vals[0] != "5" {
		t.Error(m.State())
	}
}

func TestP132Calls(t *testing.T) {
	p := parse(t, "proc main(n: int) returns (r: int) { call r := f(n); assert r == n + 1; } proc f(x: int) returns (y: int, z: bool) { y := x; } proc g(x: int) returns (y: int) { if x > 0 { call y := g(x - 1); } y := y + 1; }")
	p.Procs[0].Body[0].Names[0] = "g"
	m, e := New(p, nums("2"), nil)
	if e != api.OK {
		t.Fatal(e)
	}
	if m.Step(); len(m.State().Frames) != 2 || m.State().Frames[1].Entry[0].Num != "2" || m.State().Frames[0].At != 0 || len(m.Trace()) != 0 {
		t.Error(m.State())
	}
	if m.Run(100) != api.StatusFinished || m.State().Frames[0].Values[1].Num != "3" || len(m.State().Frames) != 1 {
		t.Error(m.State())
	}
	if tr := m.Trace(); !slices.Equal(tr, []int{20000, 20000, 20001, 20003, 20004, 20002, 20004, 20002, 20004, 0, 1}) {
		t.Error(tr)
	}
	m, _ = New(parse(t, "proc main() { call main(); }"), nil, nil)
	if m.Run(1000000) != api.StatusLimit || len(m.State().Frames) != api.MaxFrames || len(m.Trace()) != 0 {
		t.Error("StatusLimit")
	}
}

func TestP133Run(t *testing.T) {
	m, _ := New(parse(t, "proc main() { while true { } }"), nil, nil)
	if m.Run(0) != api.StatusRunning || m.Run(-5) != api.StatusRunning || len(m.Trace()) != 0 || m.Run(7) != api.StatusRunning || len(m.Trace()) != 7 {
		t.Error(m.Trace())
	}
	s := m.State()
	s.Frames[0].At = 77
	if m.State().Frames[0].At == 77 {
		t.Error("shared memory")
	}
}

func TestP134Nil(t *testing.T) {
	var m *Machine
	if m.Step() != 0 || m.Run(3) != 0 || m.State().Status != 0 || m.Trace() != nil {
		t.Error("nil")
	}
}
