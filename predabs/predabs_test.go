package predabs

import (
	"slices"
	"strconv"
	"strings"
	"testing"

	"chcsolver/api"
	"chcsolver/certificate"
	"chcsolver/system"
	"chcsolver/term"
	"chcsolver/tree"
	"chcsolver/value"
)

func parse(t *testing.T, src string) api.System {
	t.Helper()
	s, at, e := system.Parse(src)
	if e != api.OK {
		t.Fatal(src, at, e)
	}
	return s
}

const loop = "(declare-fun P (Int) Bool)(declare-fun Q (Int Bool) Bool)(assert (P 0))(assert (forall ((x Int)) (=> (and (P x) (< x 10)) (P (+ x 1)))))(assert (forall ((x Int) (y Int)) (=> (and (P x) (P y) (< x y)) (Q (- y x) (< x 5)))))(assert (forall ((x Int) (b Bool)) (not (and (Q x b) (< x 0)))))"

// basesOf makes bases with the parameters z0, z1 and so on.
func basesOf(t *testing.T, s api.System, preds ...[]string) []api.Basis {
	t.Helper()
	var l []api.Basis
	for i, p := range s.Preds {
		b := api.Basis{Pred: p.Name}
		for k, sort := range p.Args {
			b.Params = append(b.Params, api.Var{Name: "z" + strconv.Itoa(k), Sort: sort})
		}
		for _, src := range preds[i] {
			f, _, e := term.Parse(src, b.Params, nil)
			if e != api.OK {
				t.Fatal(src, e)
			}
			b.Preds = append(b.Preds, f)
		}
		l = append(l, b)
	}
	return l
}

func num(n int) api.Value { return api.Value{Sort: 2, Num: strconv.Itoa(n)} }

func TestP391In(t *testing.T) {
	s := parse(t, loop)
	b := basesOf(t, s, []string{"(<= 0 z0)", "(< z0 5)"}, nil)[0]
	for _, c := range []struct {
		signs []int
		n     int
		want  bool
	}{{[]int{1, 1}, 3, true}, {[]int{1, -1}, 3, false}, {[]int{1, 0}, 9, true}, {[]int{-1, 1}, -3, true}, {[]int{0, 0}, 7, true}} {
		if is, e := In(b, api.Cube{Pred: "P", Signs: c.signs}, []api.Value{num(c.n)}); is != c.want || e != api.OK {
			t.Error(c, is, e)
		}
	}
	good := api.Cube{Pred: "P", Signs: []int{1, 1}}
	many := b
	many.Preds = slices.Repeat(b.Preds, 6)
	wrong := b
	wrong.Preds = []api.Term{tree.Var("q", 1), tree.True()}
	twice := b
	twice.Params = slices.Repeat(b.Params, 2)
	for i, c := range []struct {
		b    api.Basis
		c    api.Cube
		args []api.Value
	}{{b, api.Cube{Pred: "Q", Signs: []int{1, 1}}, []api.Value{num(1)}}, {b, api.Cube{Pred: "P", Signs: []int{1}}, []api.Value{num(1)}}, {b, api.Cube{Pred: "P", Signs: []int{1, 2}}, []api.Value{num(1)}}, {b, good, nil}, {b, good, []api.Value{{Sort: 1}}}, {many, api.Cube{Pred: "P", Signs: make([]int, 12)}, []api.Value{num(1)}}, {wrong, good, []api.Value{num(1)}}, {twice, good, []api.Value{num(1), num(1)}}} {
		if _, e := In(c.b, c.c, c.args); e != api.ErrInvalid {
			t.Error(i, e)
		}
	}
}

func cubesText(l []api.Cube) string {
	var parts []string
	for _, c := range l {
		s := c.Pred
		for _, x := range c.Signs {
			s += []string{"-", "0", "+"}[x+1]
		}
		parts = append(parts, s)
	}
	return strings.Join(parts, " ")
}

func TestP392Find(t *testing.T) {
	s := parse(t, loop)
	bases := basesOf(t, s, []string{"(<= 0 z0)", "(< z0 5)", "(< z0 0)"}, []string{"(< z0 0)", "z1"})
	cube := func(pred string, signs ...int) api.Cube { return api.Cube{Pred: pred, Signs: signs} }
	for _, c := range []struct {
		clause int
		body   []api.Cube
		exact  bool
		want   string
	}{
		{0, nil, true, "P++-"}, {0, nil, false, "P++-"}, {1, []api.Cube{cube("P", 1, 0, 0)}, true, "P++- P+--"}, {1, []api.Cube{cube("P", 1, 0, 0)}, false, "P+0-"}, {1, []api.Cube{cube("P", 0, 0, 0)}, true, "P++- P+-- P-++"}, {2, []api.Cube{cube("P", 1, 1, 0), cube("P", 1, -1, 0)}, true, "Q-+"}, {2, []api.Cube{cube("P", 1, -1, 0), cube("P", 1, 1, 0)}, true, ""}, {2, []api.Cube{cube("P", 1, -1, 0), cube("P", 1, 1, 0)}, false, ""}, {3, []api.Cube{cube("Q", 0, 0)}, true, ""}, {3, []api.Cube{cube("Q", 1, 0)}, false, ""}, {3, []api.Cube{cube("Q", -1, 0)}, true, ""},
	} {
		m, e := Find(s, bases, c.clause, c.body, c.exact, 20)
		if c.clause == 3 && c.body[0].Signs[0] >= 0 {
			c.want = strings.TrimSpace(cubesText([]api.Cube{{}}))
			if len(m.Cubes) != 1 {
				t.Error(c, m)
			}
		}
		if e != api.OK || m.Answer != api.Sat || cubesText(m.Cubes) != c.want || len(m.Witnesses) != len(m.Cubes) {
			t.Error(c.clause, c.exact, cubesText(m.Cubes), c.want, e)
		}
		for i, w := range m.Witnesses {
			k := s.Clauses[c.clause]
			if !value.Holds(k.Guard, w, nil) || len(w) != len(k.Vars) {
				t.Error("witness", c.clause, w)
			}
			var args []api.Value
			for _, a := range k.Head.Args {
				v, _ := value.Eval(a, w, nil)
				args = append(args, v)
			}
			if is, e := In(basis(bases, k.Head.Pred), m.Cubes[i], args); !is || e != api.OK {
				t.Error("head", c.clause, w, e)
			}
		}
	}
	for i, c := range []struct {
		clause, budget int
		body           []api.Cube
		bases          []api.Basis
	}{{4, 1, nil, bases}, {-1, 1, nil, bases}, {0, -1, nil, bases}, {0, 1, nil, bases[:1]}, {1, 1, nil, bases}, {1, 1, []api.Cube{cube("Q", 1, 1)}, bases}, {1, 1, []api.Cube{cube("P", 1, 1)}, bases}, {0, 1, nil, []api.Basis{bases[1], bases[0]}}} {
		if _, e := Find(s, c.bases, c.clause, c.body, true, c.budget); e != api.ErrInvalid {
			t.Error(i, e)
		}
	}
}

func TestP393P396Reach(t *testing.T) {
	s := parse(t, loop)
	for _, exact := range []bool{true, false} {
		bases := basesOf(t, s, []string{"(<= 0 z0)", "(< z0 5)"}, []string{"(< z0 0)"})
		r, e := Reach(s, bases, exact, 20)
		if e != api.OK || r.Answer != api.Sat || !slices.IsSortedFunc(r.Cubes, order(s)) {
			t.Fatal(r, e)
		}
		m, e := Model(s, bases, r.Cubes)
		if e != api.OK || !certificate.Shaped(s, m) {
			t.Fatal(e)
		}
		for x := -3; x < 14; x++ {
			for y := -3; y < 14; y++ {
				for i, vals := range [][]api.Value{nil, {num(x)}, {num(x), num(y)}, {num(x), {Sort: 1}}} {
					if is, e := certificate.ClauseAt(s, m, i, vals); !is || e != api.OK {
						t.Fatal(i, vals, e)
					}
				}
			}
		}
		bases = basesOf(t, s, []string{"(<= 0 z0)"}, nil)
		r, e = Reach(s, bases, exact, 20)
		if e != api.OK || r.Answer != api.Unsat || s.Clauses[r.Shape[0].Clause].Head.Pred != "" {
			t.Fatal(r, e)
		}
		if a, e := Possible(s, bases, r.Shape, exact, 20); a != api.Sat || e != api.OK {
			t.Error(a, e)
		}
		bases = basesOf(t, s, []string{"(<= 0 z0)", "(< z0 5)"}, []string{"(< z0 0)"})
		if a, e := Possible(s, bases, r.Shape, exact, 20); a != api.Unsat || e != api.OK {
			t.Error(a, e)
		}
	}
	bases := basesOf(t, s, nil, nil)
	for i, shape := range [][]api.ShapeNode{nil, {{Clause: 9}}, {{Clause: 1}}, {{Clause: 0}, {Clause: 0}}, {{Clause: 3, Kids: 1}, {Clause: 0}}, {{Clause: 0, Kids: -1}}} {
		if _, e := Possible(s, bases, shape, true, 1); e != api.ErrInvalid {
			t.Error(i, e)
		}
	}
	if _, e := Reach(s, nil, true, 1); e != api.ErrInvalid {
		t.Error(e)
	}
	if _, e := Reach(s, bases, true, api.MaxBudget+1); e != api.ErrInvalid {
		t.Error(e)
	}
	real := parse(t, "(declare-fun P (Int) Bool)(assert (P 0))(assert (forall ((x Int)) (=> (P x) (P (+ x 1)))))(assert (forall ((x Int)) (not (and (P x) (= x 2)))))")
	d, _, _ := certificate.ParseTree(real, "(2 (2) (1 (1) (1 (0) (0 ()))))")
	var shape []api.ShapeNode
	for _, n := range d {
		shape = append(shape, api.ShapeNode{Clause: n.Clause, Kids: n.Kids})
	}
	for _, preds := range [][]string{nil, {"(< z0 2)"}, {"(< z0 2)", "(= z0 1)", "(= (mod z0 2) 0)"}} {
		if a, e := Possible(real, basesOf(t, real, preds), shape, true, 20); !certificate.Refutes(real, d) || a != api.Sat || e != api.OK {
			t.Error("the shape of a refutation is possible", a, e)
		}
	}
}

func TestP394P395Model(t *testing.T) {
	s := parse(t, loop)
	bases := basesOf(t, s, []string{"(<= 0 z0)", "(< z0 5)"}, nil)
	m, e := Model(s, bases, []api.Cube{{Pred: "P", Signs: []int{1, -1}}, {Pred: "P", Signs: []int{0, 0}}})
	if e != api.OK || certificate.FormatModel(m) != "(define-fun P ((z0 Int)) Bool (or (and (<= 0 z0) (not (< z0 5))) (and)))\n(define-fun Q ((z0 Int) (z1 Bool)) Bool (or))\n" {
		t.Error(certificate.FormatModel(m), e)
	}
	for i, c := range []api.Cube{{}, {Pred: "Z"}, {Pred: "P"}, {Pred: "P", Signs: []int{1, 3}}} {
		if _, e := Model(s, bases, []api.Cube{c}); e != api.ErrInvalid {
			t.Error(i, e)
		}
	}
}
