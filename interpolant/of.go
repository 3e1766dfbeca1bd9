package interpolant

import (
	"maps"
	"slices"

	"chcsolver/api"
	"chcsolver/cuts"
	"chcsolver/fol"
	"chcsolver/linear"
	"chcsolver/mbparray"
	"chcsolver/number"
	"chcsolver/qe"
	"chcsolver/simplex"
	"chcsolver/simplify"
	"chcsolver/smt"
	"chcsolver/term"
	"chcsolver/tree"
)

// unknown is what the search panics with when it gives up.
type unknown struct{}

// separator separates two formulas without quotients that contradict each other.
type separator struct {
	a, b   api.Term
	shared map[string]bool
	budget int
}

// Of returns an interpolant of two formulas that contradict each other.
func Of(a, b api.Term, budget int) (api.Term, int, api.Errno) {
	if !fol.IsFormula(a) || !fol.IsFormula(b) {
		return nil, 0, api.ErrInvalid
	}
	r, e := smt.Solve(tree.And(a, b), budget)
	if e != api.OK || r.Answer != api.Unsat {
		return nil, r.Answer, e
	}
	t, found := separate(a, b, budget)
	if !found || !term.Valid(t) {
		return nil, api.Unknown, api.OK
	}
	return tree.Clone(t), api.Unsat, api.OK
}

func hasArray(t api.Term) bool {
	return slices.ContainsFunc(t, func(n api.Node) bool {
		return n.Op == api.OpVar && n.Sort == api.SortArray || n.Op == api.OpConst || n.Op == api.OpSelect || n.Op == api.OpStore
	})
}

// separate returns an interpolant, or false if none was found.
func separate(a, b api.Term, budget int) (t api.Term, found bool) {
	shared := map[string]bool{}
	for _, v := range tree.Vars(a) {
		shared[v.Name] = fol.Contains(b, v.Name)
	}
	local := func(v api.Var) bool { return !shared[v.Name] }
	switch {
	case !slices.ContainsFunc(tree.Vars(a), local):
		return a, true
	case !slices.ContainsFunc(tree.Vars(b), local):
		return tree.Not(b), true
	case hasArray(a) || hasArray(b):
		return nil, false
	}
	used := tree.Names(tree.Vars(a, b))
	pureA, vars, e := simplify.Purify(a, used)
	pureB, _, e2 := simplify.Purify(b, append(used, tree.Names(vars)...))
	if e != api.OK || e2 != api.OK {
		return nil, false
	}
	defer func() {
		switch p := recover().(type) {
		case nil:
		case unknown:
			t, found = nil, false
		default:
			panic(p)
		}
	}()
	s := &separator{pureA, pureB, shared, budget}
	if qe.Try(func() { t = s.search() }) != api.OK {
		return nil, false
	}
	return t, true
}

// model returns a model of a formula, or false if there is none.
func (s *separator) model(t api.Term) ([]api.Binding, bool) {
	r, e := smt.Solve(t, s.budget)
	if e != api.OK || r.Answer == api.Unknown {
		panic(unknown{})
	}
	return r.Model, r.Answer == api.Sat
}

// search covers a by formulas that contradict b, cube by cube.
func (s *separator) search() api.Term {
	out := tree.False()
	for {
		env, is := s.model(tree.And(s.a, tree.Not(out)))
		if !is {
			return out
		}
		out = qe.Check(fol.Or(out, s.cover(s.cube(s.a, env))))
	}
}

// cover returns a formula that a cube of a implies and that contradicts b.
func (s *separator) cover(cube []api.Term) api.Term {
	out := tree.True()
	for {
		env, is := s.model(tree.And(out, s.b))
		if !is {
			return out
		}
		t, is := s.separateCubes(cube, s.cube(s.b, env))
		if !is {
			return s.project(cube)
		}
		out = qe.Check(fol.And(out, t))
	}
}

// cube returns literals that are true under a model and imply a formula; differences are replaced by comparisons.
func (s *separator) cube(f api.Term, env []api.Binding) []api.Term {
	known := map[string]bool{}
	for _, b := range env {
		known[b.Name] = true
	}
	for _, v := range tree.Vars(f) {
		if !known[v.Name] {
			env = append(env, zero(v))
		}
	}
	l, e := smt.Implicant(f, env)
	if e != api.OK || len(l) > api.MaxLiterals {
		panic(unknown{})
	}
	values := qe.Numbers(env)
	for i, t := range l {
		x, is := qe.FromTerm(t)
		if !is || x.Rel != qe.RelNe {
			continue
		}
		kids := tree.Kids(t[1:])
		if qe.Value(x.Lin, values).Sign() < 0 {
			l[i] = tree.Lt(kids[0], kids[1])
		} else {
			l[i] = tree.Lt(kids[1], kids[0])
		}
	}
	return l
}

func zero(v api.Var) api.Binding {
	x := api.Value{Sort: v.Sort}
	if v.Sort != api.SortBool {
		x.Num = "0"
	}
	return api.Binding{Name: v.Name, Value: x}
}

// separateCubes returns an interpolant of two cubes, and false if their integers have none of the simple form.
func (s *separator) separateCubes(a, b []api.Term) (api.Term, bool) {
	for _, t := range a {
		opposite := fol.Negation(t)
		if slices.ContainsFunc(b, func(u api.Term) bool { return tree.Equal(u, opposite) }) && s.isShared(t) {
			return t, true
		}
	}
	names, rowsA, rowsB := rowsOf(a, b, api.SortReal)
	if r, e := simplex.Solve(len(names), slices.Concat(rowsA, rowsB)); e != api.OK {
		panic(unknown{})
	} else if r.Answer == api.Unsat {
		row, e := Farkas(len(names), rowsA, rowsB, r.Farkas)
		if e != api.OK {
			panic(unknown{})
		}
		return statement(names, row, api.SortReal), true
	}
	names, rowsA, rowsB = rowsOf(a, b, api.SortInt)
	r, e := cuts.Solve(len(names), slices.Concat(rowsA, rowsB), s.budget)
	if e != api.OK || r.Answer != api.Unsat {
		panic(unknown{})
	}
	t, e := Split(names, rowsA, rowsB, r.Proof)
	if e != api.OK {
		return nil, false
	}
	return flat(t), true
}

// flat simplifies the connectives of a formula.
func flat(t api.Term) api.Term {
	return qe.Map(t, func(l api.Term) api.Term { return l })
}

func (s *separator) isShared(t api.Term) bool {
	return !slices.ContainsFunc(tree.Vars(t), func(v api.Var) bool { return !s.shared[v.Name] })
}

// rowsOf returns the variables and the rows of the comparisons of numbers of a sort in two cubes.
func rowsOf(a, b []api.Term, sort int) ([]string, []api.Row, []api.Row) {
	seen := map[string]bool{}
	constraints := func(l []api.Term) []api.Constraint {
		var out []api.Constraint
		for _, t := range l {
			if c, e := linear.Atom(t); e == api.OK && c.Lin.Sort == sort && c.Mod == "" {
				for _, k := range c.Lin.Coefs {
					seen[k.Name] = true
				}
				out = append(out, c)
			}
		}
		return out
	}
	x, y := constraints(a), constraints(b)
	names := slices.Sorted(maps.Keys(seen))
	rows := func(l []api.Constraint) []api.Row {
		var out []api.Row
		for _, c := range l {
			r := api.Row{C: slices.Repeat([]string{"0"}, len(names)), Rel: c.Rel, K: number.Neg(c.Lin.Const)}
			for _, k := range c.Lin.Coefs {
				i, _ := slices.BinarySearch(names, k.Name)
				r.C[i] = k.Num
			}
			out = append(out, r)
		}
		return out
	}
	return names, rows(x), rows(y)
}

// project returns what a cube states about the shared variables, as far as it is needed to contradict b.
func (s *separator) project(cube []api.Term) api.Term {
	env, is := s.model(tree.And(cube...))
	if !is {
		return tree.False()
	}
	var vars []string
	for _, v := range tree.Vars(cube...) {
		if !s.shared[v.Name] {
			vars = append(vars, v.Name)
		}
	}
	p, e := mbparray.Project(cube, vars, env)
	if e != api.OK {
		panic(unknown{})
	}
	parts := tree.Kids(p.G)
	answer, core, e := smt.Core(append(slices.Clone(parts), s.b), s.budget)
	if e != api.OK || answer != api.Unsat {
		panic(unknown{})
	}
	var kept []api.Term
	for _, i := range core {
		if i < len(parts) {
			kept = append(kept, parts[i])
		}
	}
	return fol.And(kept...)
}
