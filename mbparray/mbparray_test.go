package mbparray

import (
	"math/rand"
	"slices"
	"strconv"
	"testing"

	"chcsolver/api"
	"chcsolver/subst"
	"chcsolver/term"
	"chcsolver/tree"
	"chcsolver/value"
)

var vars = []api.Var{{Name: "a", Sort: 4}, {Name: "b", Sort: 4}, {Name: "c", Sort: 4}, {Name: "i", Sort: 2}, {Name: "j", Sort: 2}, {Name: "x", Sort: 2}, {Name: "p", Sort: 1}, {Name: "q", Sort: 1}, {Name: "r", Sort: 3}, {Name: "s", Sort: 3}}

func tm(s string) api.Term {
	t, _, e := term.Parse(s, vars, nil)
	if e != api.OK {
		panic(s)
	}
	return t
}

func num(n int) api.Value { return api.Value{Sort: 2, Num: strconv.Itoa(n)} }

func array(other int, l ...int) api.Value {
	v := api.Value{Sort: 4, Num: strconv.Itoa(other)}
	for k := 0; k < len(l); k += 2 {
		v, _ = value.Store(v, strconv.Itoa(l[k]), strconv.Itoa(l[k+1]))
	}
	return v
}

func TestP341Errors(t *testing.T) {
	env := []api.Binding{{Name: "i", Value: num(1)}, {Name: "p", Value: api.Value{Sort: 1, Bool: true}}, {Name: "a", Value: array(0)}}
	for k, c := range []struct {
		l    []api.Term
		vars []string
		e    api.Errno
	}{
		{[]api.Term{tm("(and p p)")}, nil, api.ErrInvalid}, {[]api.Term{nil}, nil, api.ErrInvalid}, {[]api.Term{tm("(= a (ite p a b))")}, nil, api.ErrInvalid}, {[]api.Term{tm("(< (select (ite p a b) 1) i)")}, nil, api.ErrInvalid}, {[]api.Term{tm("(< (div i 2) 1)")}, nil, api.ErrInvalid}, {[]api.Term{tm("(= p q)")}, nil, api.ErrInvalid}, {nil, []string{"a", "a"}, api.ErrInvalid}, {nil, []string{"1"}, api.ErrInvalid}, {slices.Repeat([]api.Term{tm("p")}, 61), nil, api.ErrInvalid},
		{[]api.Term{tm("(not p)"), tm("(< j i)")}, nil, api.ErrUnbound}, {[]api.Term{tm("(not p)")}, []string{"p"}, api.ErrForm}, {[]api.Term{tm("p"), tm("(= (mod (select a i) 2) 0)"), tm("(not (= i 2))")}, []string{"p", "a", "u"}, api.OK},
	} {
		if out, e := Project(c.l, c.vars, env); e != c.e || e == api.OK && len(out.Witness) != len(c.vars) {
			t.Error(k, e)
		}
	}
}

func TestP341Examples(t *testing.T) {
	env := []api.Binding{{Name: "i", Value: num(1)}, {Name: "x", Value: num(7)}, {Name: "a", Value: array(0, 1, 7)}, {Name: "p", Value: api.Value{Sort: 1, Bool: true}}, {Name: "q", Value: api.Value{Sort: 1, Bool: true}}}
	out, e := Project([]api.Term{tm("(= (select a i) x)")}, []string{"a"}, env)
	if e != api.OK || term.Format(out.G) != "(and)" || term.Format(out.Witness[0].Term) != "(store (const 0) i x)" {
		t.Error(term.Format(out.G), out.Witness, e)
	}
	out, e = Project([]api.Term{tm("p"), tm("q")}, []string{"p", "zz"}, env)
	if e != api.OK || term.Format(out.G) != "(and q)" || term.Format(out.Witness[0].Term) != "true" || term.Format(out.Witness[1].Term) != "false" {
		t.Error(term.Format(out.G), out.Witness, e)
	}
	env = append(env, api.Binding{Name: "b", Value: array(0, 1, 9)})
	out, e = Project([]api.Term{tm("(= b (store a i 9))")}, []string{"a"}, env)
	if e != api.OK || term.Format(out.G) != "(and (= (select b i) 9))" {
		t.Error(term.Format(out.G), out.Witness, e)
	}
}

type generator struct{ *rand.Rand }

func (g generator) pick(l ...string) string { return l[g.Intn(len(l))] }

func (g generator) integer(d int) string {
	if d == 0 {
		return g.pick("i", "j", "x", "1", "(+ i 1)", "(* 2 j)")
	}
	return g.pick("(select "+g.array(d-1)+" "+g.integer(d-1)+")", "(+ "+g.integer(d-1)+" x)", g.integer(0))
}

func (g generator) array(d int) string {
	if d == 0 {
		return g.pick("a", "b", "c")
	}
	return g.pick("(store "+g.array(d-1)+" "+g.integer(0)+" "+g.integer(d-1)+")", "(const "+g.integer(0)+")", g.array(0))
}

func (g generator) literal() string {
	return g.pick("p", "q", "(< r s)", "(= r s)", "(<= (+ r 1.0) s)", "(< "+g.integer(1)+" "+g.integer(2)+")", "(= "+g.integer(1)+" "+g.integer(2)+")", "(= (mod "+g.integer(1)+" 3) 1)", "(= "+g.array(1)+" "+g.array(2)+")", "(= "+g.array(0)+" "+g.array(2)+")")
}

func (g generator) env() []api.Binding {
	n := func() int { return g.Intn(5) - 1 }
	truth := func() api.Value { return api.Value{Sort: 1, Bool: g.Intn(2) == 0} }
	real := func() api.Value { return api.Value{Sort: 3, Num: strconv.Itoa(n())} }
	arr := func() api.Value { return array(n(), n(), n(), n(), n()) }
	return []api.Binding{{Name: "a", Value: arr()}, {Name: "b", Value: arr()}, {Name: "c", Value: arr()}, {Name: "i", Value: num(n())}, {Name: "j", Value: num(n())}, {Name: "x", Value: num(n())}, {Name: "p", Value: truth()}, {Name: "q", Value: truth()}, {Name: "r", Value: real()}, {Name: "s", Value: real()}}
}

func TestP341P342Random(t *testing.T) {
	g := generator{rand.New(rand.NewSource(17))}
	used, weak := 0, 0
	for range 1500 {
		env := g.env()
		var l []api.Term
		for range 1 + g.Intn(5) {
			f := tm(g.literal())
			if !value.Holds(f, env, nil) {
				f = tree.Not(f)
			}
			l = append(l, f)
		}
		var names []string
		for _, v := range vars {
			if g.Intn(2) == 0 {
				names = append(names, v.Name)
			}
		}
		out, e := Project(l, names, env)
		if e != api.OK || !value.Holds(out.G, env, nil) || len(out.Witness) != len(names) {
			t.Fatal(e, term.Format(tree.And(l...)), names)
		}
		known := tree.Names(tree.Vars(l...))
		all := []api.Term{out.G}
		for _, w := range out.Witness {
			all = append(all, w.Term)
		}
		for _, v := range tree.Vars(all...) {
			if slices.Contains(names, v.Name) || !slices.Contains(known, v.Name) {
				t.Fatal("variable", v.Name, term.Format(out.G))
			}
		}
		if out.G[0].Op != api.OpAnd {
			t.Fatal(term.Format(out.G))
		}
		for _, k := range tree.Kids(out.G) {
			if !isLiteral(k) {
				t.Fatal("no literal", term.Format(k))
			}
		}
		var occurring []api.Sub
		for _, w := range out.Witness {
			if slices.Contains(known, w.Name) {
				occurring = append(occurring, w)
			}
		}
		whole, e := subst.Apply(tree.And(l...), occurring)
		if e != api.OK {
			t.Fatal(e)
		}
		for range 40 {
			at := g.env()
			if value.Holds(out.G, at, nil) {
				used++
				if !value.Holds(whole, at, nil) {
					t.Fatal(term.Format(tree.And(l...)), names, term.Format(out.G), occurring, at)
				}
			}
		}
		if len(out.G) < 40 {
			weak++
		}
	}
	if used < 5000 || weak < 700 {
		t.Error(used, weak)
	}
}

func TestP342Finite(t *testing.T) {
	g := generator{rand.New(rand.NewSource(18))}
	l := []api.Term{tm("(< i j)"), tm("(< x j)"), tm("(= (mod j 2) 0)"), tm("(not (= j 9))"), tm("q")}
	results := map[string]bool{}
	for range 2000 {
		env := g.env()
		for k := range env {
			if env[k].Value.Sort == 2 {
				env[k].Value = num(g.Intn(50))
			}
		}
		if value.Holds(tree.And(l...), env, nil) {
			out, _ := Project(l, []string{"j", "q"}, env)
			results[term.Format(out.G)] = true
		}
	}
	if len(results) == 0 || len(results) > 30 {
		t.Error(len(results))
	}
}
