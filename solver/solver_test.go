package solver

import (
	"strconv"
	"strings"
	"testing"

	"chcsolver/api"
	"chcsolver/certificate"
	"chcsolver/checker"
	"chcsolver/lang"
	"chcsolver/machine"
	"chcsolver/system"
)

const loop = "(declare-fun P (Int) Bool)(assert (P 0))(assert (forall ((x Int)) (=> (and (P x) (< x 10)) (P (+ x 1)))))"

func parse(t *testing.T, src string) api.System {
	t.Helper()
	s, at, e := system.Parse(src)
	if e != api.OK {
		t.Fatal(src, at, e)
	}
	return s
}

func program(t *testing.T, src string) api.Program {
	t.Helper()
	p, at, e := lang.Parse(src)
	if e != api.OK {
		t.Fatal(src, at, e)
	}
	return p
}

func turns(l ...int) []api.Turn {
	var out []api.Turn
	for i := 0; i < len(l); i += 2 {
		out = append(out, api.Turn{Engine: l[i], Steps: l[i+1], Share: true})
	}
	return out
}

func checkRound(t *testing.T, s api.System, r api.Round) {
	t.Helper()
	if r.Height != 0 {
		t.Error("height")
	}
	if r.Answer == api.Sat {
		if f, e := checker.Model(s, r.Model, 200); e != api.OK || f.Answer == api.Sat {
			t.Error("model", e)
		}
	}
	if r.Answer == api.Unsat && !certificate.Refutes(s, r.Tree) {
		t.Error("tree")
	}
}

func TestP451Solve(t *testing.T) {
	safe, unsafe := parse(t, loop+"(assert (forall ((x Int)) (=> (P x) (<= x 20))))"), parse(t, loop+"(assert (forall ((x Int)) (not (and (P x) (= x 3)))))")
	for _, choices := range [][]api.Choice{nil, {{Kind: api.TransNormal}}, {{Kind: api.TransSlice}, {Kind: api.TransArgs}}} {
		for engine := 1; engine <= 2; engine++ {
			r, e := Solve(safe, choices, turns(engine, 10), 60)
			if e != api.OK || r.Answer != api.Sat {
				t.Error(choices, engine, r.Answer, e)
			}
			checkRound(t, safe, r)
			r, e = Solve(unsafe, choices, turns(engine, 10), 60)
			if e != api.OK || r.Answer != api.Unsat {
				t.Error(choices, engine, r.Answer, e)
			}
			checkRound(t, unsafe, r)
		}
	}
	if r, e := Solve(safe, nil, nil, 0); e != api.OK || r.Answer != api.Unknown {
		t.Error(r, e)
	}
	for i, c := range []struct {
		s       api.System
		choices []api.Choice
		l       []api.Turn
		budget  int
		e       api.Errno
	}{{api.System{Preds: []api.Func{{}}}, nil, nil, 0, api.ErrInvalid}, {safe, nil, turns(4, 1), 0, api.ErrInvalid}, {safe, nil, turns(1, 61), 0, api.ErrInvalid}, {safe, nil, make([]api.Turn, 61), 0, api.ErrInvalid}, {safe, []api.Choice{{Kind: 9}}, nil, -1, api.ErrInvalid}, {safe, []api.Choice{{Kind: api.TransInline, Pred: "Q"}}, nil, 0, api.ErrName}, {safe, []api.Choice{{Kind: api.TransInline, Pred: "P"}}, nil, 0, api.ErrRecursive}, {safe, make([]api.Choice, 41), nil, 0, api.ErrLimit}} {
		if _, e := Solve(c.s, c.choices, c.l, c.budget); e != c.e {
			t.Error(i, e)
		}
	}
}

func TestP452Program(t *testing.T) {
	for _, c := range []struct {
		src  string
		want int
	}{
		{"proc main(n: int) { var x: int; while x < n { x := x + 1; } assert x < 3; }", api.Unsat}, {"proc main() { }", api.Sat}, {"proc main(n: int) { var x: int; assume n < 5; while x < n { x := x + 1; } assert x < 6; }", api.Sat}, {"proc main() { var x: int; var y: int; havoc x; call y := f(x); assert y != 3; } proc f(a: int) returns (b: int) { havoc b; b := b + a; }", api.Unsat}, {"proc main(b: bool) { var x: int; if b { x := 1; } else { x := 2; } assert 0 < x; }", api.Sat},
	} {
		p := program(t, c.src)
		for encoding := 1; encoding <= 3; encoding++ {
			r, args, inputs, e := Program(p, encoding, turns(3, 6, 2, 4, 1, 10), 60)
			if e != api.OK || r.Answer != c.want {
				t.Error(c.src, encoding, r.Answer, e)
				continue
			}
			by, _ := encodingOf(encoding)
			s, _, _ := by.encode(p)
			checkRound(t, s, r)
			if c.want != api.Unsat {
				if len(args)+len(inputs) > 0 {
					t.Error("inputs")
				}
				continue
			}
			m, e := machine.New(p, args, inputs)
			if e != api.OK || m.Run(100000) != api.StatusFailed {
				t.Error(c.src, encoding, args, inputs)
			}
		}
	}
	good, bad := program(t, "proc main() { }"), program(t, "proc f() { }")
	for i, c := range []struct {
		p        api.Program
		encoding int
		l        []api.Turn
		e        api.Errno
	}{{bad, 1, nil, api.ErrInvalid}, {good, 0, nil, api.ErrInvalid}, {good, 4, nil, api.ErrInvalid}, {good, 1, turns(0, 1), api.ErrInvalid}, {program(t, "proc main() { assert "+strings.Repeat("!", api.MaxDepth)+"true; }"), 1, nil, api.ErrLimit}, {good, 2, nil, api.OK}} {
		if _, _, _, e := Program(c.p, c.encoding, c.l, 1); e != c.e {
			t.Error(i, e)
		}
	}
}

// say executes commands, each followed by the reply that it must have, or by the number of an error.
func say(t *testing.T, c *Console, l ...any) {
	t.Helper()
	for i := 0; i < len(l); i += 2 {
		got, e := c.Line(l[i].(string))
		switch want := l[i+1].(type) {
		case api.Errno:
			if e != want || got != "" {
				t.Error(l[i], got, e)
			}
		case string:
			if e != api.OK || got != want {
				t.Error(l[i], strconv.Quote(got), e)
			}
		}
	}
}

func TestP453Commands(t *testing.T) {
	c := New()
	say(t, c, "budget 7", "ok", "play 4 1", api.ErrSyntax, "model 1", api.ErrSyntax, "play 1 3", api.ErrState, "transform", api.ErrState, "lemmas", api.ErrState, "model", api.ErrState, "tree", api.ErrState, "inputs", api.ErrState, "check", api.ErrState, "encode step", api.ErrState)
	say(t, c, "", api.ErrSyntax, "foo", api.ErrSyntax, "budget", api.ErrSyntax, "budget 07", api.ErrSyntax, "budget -1", api.ErrSyntax, "budget 4001", api.ErrSyntax, "budget 1 2", api.ErrSyntax, "play 1", api.ErrSyntax, "play 1 61", api.ErrSyntax, "play 1  3", api.ErrSyntax, "play 1 3 shared", api.ErrSyntax, "play 1 3 share x", api.ErrSyntax, "encode", api.ErrSyntax, "encode foo", api.ErrSyntax, "transform ", api.ErrSyntax, "system", api.ErrSyntax, "program", api.ErrSyntax, " budget 7", api.ErrSyntax, "check x", api.ErrSyntax, "lemmas 1", api.ErrSyntax, "inputs x", api.ErrSyntax, "tree x", api.ErrSyntax)
	say(t, c, "system (", api.ErrSyntax, "system (declare-fun P () Int)", api.ErrSort, "program x", api.ErrSyntax, "budget 60", "ok")
	say(t, c, "system "+loop+"(assert (forall ((x Int)) (not (and (P x) (= x 3)))))", "ok", "lemmas", "0", "play 1 0", "unknown", "check", api.ErrState, "play 1 9", "unsat", "tree", "(2 (3) (1 (2) (1 (1) (1 (0) (0 ())))))", "check", "accepted", "inputs", api.ErrState, "model", api.ErrState, "encode step", api.ErrState, "system (", api.ErrSyntax, "check", "accepted", "transform", "ok", "check", api.ErrState)
	say(t, c, "system (declare-fun P (Int) Bool)(assert (P 1))(assert (forall ((x Int)) (=> (P x) (< 0 x))))", "ok", "transform", "ok", "play 1 4 share", "sat", "check", "accepted", "tree", api.ErrState, "system ", "ok", "play 1 1", "sat", "model", "")
	say(t, c, "program proc main(n: int) { var x: int; havoc x; assert x != n + 2; }", "ok", "play 1 1", api.ErrState, "check", api.ErrState, "encode sum", "ok 4", "inputs", api.ErrState, "play 1 5", "unsat", "check", "accepted", "encode step", "ok 5", "transform", "ok", "play 1 6", "unsat")
	got, e := c.Line("inputs")
	args, inputs, found := strings.Cut(got, " ; ")
	n, e2 := strconv.Atoi(strings.NewReplacer("(- ", "-", ")", "").Replace(args))
	x, e3 := strconv.Atoi(strings.NewReplacer("(- ", "-", ")", "").Replace(inputs))
	if e != api.OK || !found || e2 != nil || e3 != nil || x != n+2 {
		t.Error(got, e)
	}
	say(t, c, "program proc f() { }", "ok", "encode step", api.ErrInvalid, "play 1 1", api.ErrState)
	var none *Console
	if _, e := none.Line("budget 7"); e != api.ErrInvalid {
		t.Error(e)
	}
}

func TestP454Agreement(t *testing.T) {
	c := New()
	for _, src := range []string{loop + "(assert (forall ((x Int)) (=> (P x) (<= x 12))))", loop + "(assert (forall ((x Int)) (not (and (P x) (= x 5)))))"} {
		answers := map[string]bool{}
		for _, first := range []string{"lemmas", "transform"} {
			for _, l := range []string{"play 1 8", "play 2 6", "play 3 8", "play 3 3,play 1 6 share", "play 1 2,play 2 4 share,play 3 6"} {
				say(t, c, "system "+src, "ok")
				if _, e := c.Line(first); e != api.OK {
					t.Fatal(e)
				}
				for _, line := range strings.Split(l, ",") {
					got, e := c.Line(line)
					if e != api.OK {
						t.Fatal(e)
					}
					answers[got] = true
				}
				if got, e := c.Line("check"); e != api.ErrState && got != "accepted" {
					t.Error(l, got, e)
				}
			}
		}
		if answers["sat"] && answers["unsat"] || !answers["sat"] && !answers["unsat"] {
			t.Error(src, answers)
		}
	}
}
