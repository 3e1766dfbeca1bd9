package scheduler

import (
	"math/rand"
	"slices"
	"strconv"
	"testing"

	"chcsolver/api"
	"chcsolver/certificate"
	"chcsolver/fol"
	"chcsolver/smt"
	"chcsolver/subst"
	"chcsolver/system"
	"chcsolver/tree"
)

func parse(t *testing.T, src string) api.System {
	t.Helper()
	s, at, e := system.Parse(src)
	if e != api.OK {
		t.Fatal(src, at, e)
	}
	return s
}

func plan(t *testing.T, s api.System) *Plan {
	t.Helper()
	p, e := New(s)
	if e != api.OK || p.Answer().Answer != api.Unknown {
		t.Fatal(e)
	}
	return p
}

func instance(d api.Def, args []api.Term) api.Term {
	var by []api.Sub
	for i, v := range d.Params {
		by = append(by, api.Sub{Name: v.Name, Term: args[i]})
	}
	t, _ := subst.Apply(d.Body, by)
	return t
}

// checkModel checks that every clause is true under a model.
func checkModel(t *testing.T, s api.System, m api.Model) {
	t.Helper()
	if !certificate.Shaped(s, m) {
		t.Fatal("shape")
	}
	def := func(a api.App) api.Term {
		for _, d := range m.Defs {
			if d.Pred == a.Pred {
				return instance(d, a.Args)
			}
		}
		return tree.False()
	}
	for i, c := range s.Clauses {
		parts := []api.Term{c.Guard}
		for _, a := range c.Body {
			parts = append(parts, def(a))
		}
		if a, _, _ := smt.Valid(tree.Implies(fol.And(parts...), def(c.Head)), 1000); a != api.Unsat {
			t.Fatal("clause", i, certificate.FormatModel(m))
		}
	}
}

func checkAnswer(t *testing.T, s api.System, p *Plan) int {
	t.Helper()
	r := p.Answer()
	if r.Answer == api.Sat {
		checkModel(t, s, r.Model)
	}
	if r.Answer == api.Unsat && !certificate.Refutes(s, r.Tree) {
		t.Fatal("tree")
	}
	return r.Answer
}

const loop = "(declare-fun P (Int) Bool)(assert (P 0))(assert (forall ((x Int)) (=> (and (P x) (< x 10)) (P (+ x 1)))))"

var bad = api.System{Preds: []api.Func{{}}}

func TestP431New(t *testing.T) {
	if p, e := New(bad); p != nil || e != api.ErrInvalid {
		t.Error(e)
	}
	var none *Plan
	if _, e := none.Play(nil, 1); e != api.ErrInvalid || none.Answer().Answer != 0 || none.Lemmas() != nil {
		t.Error(e)
	}
}

func TestP432Play(t *testing.T) {
	s := parse(t, loop+"(assert (forall ((x Int)) (=> (P x) (<= x 20))))")
	p := plan(t, s)
	for i, c := range []struct {
		l      []api.Turn
		budget int
	}{{slices.Repeat([]api.Turn{{Engine: 1}}, 61), 1}, {[]api.Turn{{Engine: 0}}, 1}, {[]api.Turn{{Engine: 4}}, 1}, {[]api.Turn{{Engine: 1, Steps: -1}}, 1}, {[]api.Turn{{Engine: 1, Steps: 61}}, 1}, {nil, -1}, {nil, api.MaxBudget + 1}} {
		if _, e := p.Play(c.l, c.budget); e != api.ErrInvalid {
			t.Error(i, e)
		}
	}
	l, e := p.Play([]api.Turn{{Engine: api.EngineReach, Steps: 0}, {Engine: api.EnginePoly, Steps: 2}, {Engine: api.EngineAbstract, Steps: 1, Share: true}}, 50)
	if e != api.OK || len(l) != 3 || l[0].Turn != 1 || l[0].Engine != api.EnginePoly || l[2].Turn != 2 || l[2].Answer != api.Unknown || checkAnswer(t, s, p) != api.Unknown {
		t.Error(l, e)
	}
	l, e = p.Play([]api.Turn{{Engine: api.EngineAbstract, Steps: 60}, {Engine: api.EngineReach, Steps: 60, Share: true}}, 50)
	if e != api.OK || len(l) == 0 || l[len(l)-1].Answer != api.Sat || checkAnswer(t, s, p) != api.Sat {
		t.Error(l, e)
	}
	if l, e := p.Play([]api.Turn{{Engine: api.EngineReach, Steps: 3}}, 50); e != api.OK || len(l) != 0 {
		t.Error(l, e)
	}
	empty := plan(t, parse(t, ""))
	if l, e := empty.Play([]api.Turn{{Engine: api.EngineReach, Steps: 1}}, 0); e != api.OK || len(l) != 1 || l[0].Answer != api.Sat {
		t.Error(l, e)
	}
}

func TestP432Sharing(t *testing.T) {
	s := parse(t, "(declare-fun P (Int Int) Bool)(assert (P 0 0))(assert (forall ((x Int) (y Int)) (=> (P x y) (P (+ x 1) (+ y 2)))))(assert (forall ((x Int) (y Int)) (=> (and (P x y) (= x 1000)) (= y 2000))))")
	p := plan(t, s)
	l, _ := p.Play([]api.Turn{{Engine: api.EnginePoly, Steps: 6}}, 50)
	if len(l) == 0 || p.Answer().Answer == api.Unsat {
		t.Fatal(l)
	}
	count := 0
	for _, e := range l {
		count += len(e.Lemmas)
	}
	if count != len(p.Lemmas()) || p.Answer().Answer == api.Unknown && count == 0 {
		t.Error(count, len(p.Lemmas()))
	}
	q := plan(t, parse(t, loop+"(assert (forall ((x Int)) (not (and (P x) (= x 7)))))"))
	l, _ = q.Play([]api.Turn{{Engine: api.EnginePoly, Steps: 8}, {Engine: api.EngineReach, Steps: 1, Share: true}}, 50)
	found := false
	for _, e := range l {
		for _, x := range e.Lemmas {
			found = true
			if x.Level != -1 {
				t.Error("level")
			}
		}
	}
	if !found || len(q.reach.lemmas()) == 0 || !slices.Contains(q.reach.accepted, true) {
		t.Error("the polyhedra are offered", q.reach.accepted)
	}
}

func TestP433P434Agreement(t *testing.T) {
	r := rand.New(rand.NewSource(26))
	counts := map[int]int{}
	for range 25 {
		pick := func(l ...string) string { return l[r.Intn(len(l))] }
		n := func() string { return strconv.Itoa(r.Intn(4)) }
		s := parse(t, "(declare-fun P (Int Int) Bool)(assert (P "+n()+" "+n()+"))(assert (forall ((x Int) (y Int)) (=> (and (P x y) (< "+pick("x", "y")+" "+n()+")) (P (+ x 1) "+pick("y", "x", "(+ y 1)")+"))))(assert (forall ((x Int) (y Int)) (=> (P x y) (<= "+pick("x", "y", "(- x y)")+" "+n()+"))))")
		answers := map[int]bool{}
		for _, l := range [][]api.Turn{{{Engine: 1, Steps: 8}}, {{Engine: 2, Steps: 8}}, {{Engine: 3, Steps: 6}}, {{Engine: 3, Steps: 4}, {Engine: 2, Steps: 6, Share: true}, {Engine: 1, Steps: 6, Share: true}}} {
			p := plan(t, s)
			if _, e := p.Play(l, 40); e != api.OK {
				t.Fatal(e)
			}
			a := checkAnswer(t, s, p)
			counts[a]++
			answers[a] = true
			for _, x := range p.Lemmas() {
				if len(x.Def.Params) != 2 || x.Level != -1 {
					t.Fatal("lemma")
				}
			}
		}
		if answers[api.Sat] && answers[api.Unsat] {
			t.Fatal("contradiction", system.Format(s))
		}
	}
	if counts[api.Sat] < 15 || counts[api.Unsat] < 15 {
		t.Error(counts)
	}
}

func TestP434Cutting(t *testing.T) {
	s := parse(t, loop+"(assert (forall ((x Int)) (=> (P x) (<= x 12))))")
	for engine := 1; engine <= 3; engine++ {
		a, b := plan(t, s), plan(t, s)
		for _, p := range []*Plan{a, b} {
			p.Play([]api.Turn{{Engine: 3, Steps: 3}}, 30)
		}
		x, _ := a.Play([]api.Turn{{Engine: engine, Steps: 5, Share: true}}, 30)
		y, _ := b.Play([]api.Turn{{Engine: engine, Steps: 2, Share: true}}, 30)
		z, _ := b.Play([]api.Turn{{Engine: engine, Steps: 3, Share: true}}, 30)
		if len(x) != len(y)+len(z) || a.Answer().Answer != b.Answer().Answer || certificate.FormatModel(a.Answer().Model) != certificate.FormatModel(b.Answer().Model) || len(a.Lemmas()) != len(b.Lemmas()) {
			t.Error(engine)
		}
	}
}
