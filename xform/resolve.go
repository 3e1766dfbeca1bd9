package xform

import (
	"slices"
	"strconv"

	"chcsolver/api"
	"chcsolver/linear"
	"chcsolver/simplify"
	"chcsolver/subst"
	"chcsolver/tree"
)

// Targets returns the variables y0, y1, .. for the arguments of a predicate.
func Targets(p api.Func) []api.Var {
	var l []api.Var
	for i, sort := range p.Args {
		l = append(l, api.Var{Name: "y" + strconv.Itoa(i), Sort: sort})
	}
	return l
}

// apart returns a clause without the given variables; those that it contains get new names.
func apart(c api.Clause, ys []api.Var) api.Clause {
	names := tree.Names(c.Vars)
	used := slices.Concat(names, tree.Names(ys))
	var from, to []string
	for _, name := range names {
		if slices.Contains(tree.Names(ys), name) {
			x := subst.Fresh(name, used)
			used = append(used, x)
			from, to = append(from, name), append(to, x)
		}
	}
	return renamed(c, from, to)
}

// renamed returns a clause whose variables have other names.
func renamed(c api.Clause, from, to []string) api.Clause {
	if len(from) == 0 {
		return c
	}
	name := func(s string) string {
		if i := slices.Index(from, s); i >= 0 {
			return to[i]
		}
		return s
	}
	term := func(t api.Term) api.Term {
		r, _ := subst.Rename(t, from, to)
		return r
	}
	atom := func(a api.App) api.App {
		b := api.App{Pred: a.Pred}
		for _, t := range a.Args {
			b.Args = append(b.Args, term(t))
		}
		return b
	}
	out := api.Clause{Guard: term(c.Guard), Head: atom(c.Head)}
	for _, v := range c.Vars {
		out.Vars = append(out.Vars, api.Var{Name: name(v.Name), Sort: v.Sort})
	}
	for _, a := range c.Body {
		out.Body = append(out.Body, atom(a))
	}
	return out
}

// solver finds terms for the variables of a clause.
type solver struct {
	open      map[string]bool // the variables without a solution
	solutions []api.Sub
}

func (s *solver) solve(name string, t api.Term) bool {
	delete(s.open, name)
	s.solutions = append(s.solutions, api.Sub{Name: name, Term: t})
	return true
}

// side solves the equation for a side that is a variable.
func (s *solver) side(a, b api.Term) bool {
	if a[0].Op != api.OpVar || !s.open[a[0].Name] {
		return false
	}
	for _, n := range b {
		if n.Op == api.OpVar && s.open[n.Name] {
			return false
		}
	}
	return s.solve(a[0].Name, b)
}

// equation considers an equation once; it reports whether it found a solution.
func (s *solver) equation(t api.Term) bool {
	kids := tree.Kids(t)
	if s.side(kids[0], kids[1]) || s.side(kids[1], kids[0]) {
		return true
	}
	c, e := linear.Atom(t)
	if e != api.OK || c.Rel != api.RelEq {
		return false
	}
	name := ""
	for _, k := range c.Lin.Coefs {
		if s.open[k.Name] {
			if name != "" {
				return false
			}
			name = k.Name
		}
	}
	if name == "" {
		return false
	}
	l, e := linear.Solve(c, name)
	if e != api.OK {
		return false
	}
	by, e := linear.Term(l)
	return e == api.OK && s.solve(name, by)
}

// solve returns solutions for the variables of a clause over the targets, and whether it is determined.
func solve(c api.Clause, ys []api.Var) ([]api.Sub, bool) {
	var equations []api.Term
	for i, t := range c.Head.Args {
		equations = append(equations, tree.Eq(tree.Of(ys[i]), t))
	}
	parts, _ := simplify.Conjuncts(c.Guard)
	for _, t := range parts {
		if t[0].Op == api.OpEq {
			equations = append(equations, t)
		}
	}
	s := &solver{open: map[string]bool{}}
	for _, v := range c.Vars {
		s.open[v.Name] = true
	}
	for changed := true; changed && len(s.open) > 0; {
		changed = false
		for _, t := range equations {
			changed = s.equation(t) || changed
		}
	}
	return s.solutions, len(s.open) == 0
}

// Determined reports whether a clause of a predicate is determined.
func Determined(p api.Func, c api.Clause) bool {
	ys := Targets(p)
	_, is := solve(apart(c, ys), ys)
	return is
}

// Image returns the image of a determined clause under the definitions of a model.
func Image(p api.Func, c api.Clause, m api.Model) (api.Term, api.Errno) {
	ys := Targets(p)
	c = apart(c, ys)
	solutions, _ := solve(c, ys)
	closed, e := subst.Close(solutions)
	if e != api.OK {
		return nil, e
	}
	var parts []api.Term
	add := func(t api.Term, by []api.Sub) {
		r, e2 := subst.Apply(t, by)
		if e2 != api.OK {
			e = e2
		}
		parts = append(parts, r)
	}
	for i, t := range c.Head.Args {
		add(tree.Eq(tree.Of(ys[i]), t), closed)
	}
	add(c.Guard, closed)
	for _, a := range c.Body {
		d := m.Defs[slices.IndexFunc(m.Defs, func(d api.Def) bool { return d.Pred == a.Pred })]
		var by []api.Sub
		for i, t := range a.Args {
			r, e2 := subst.Apply(t, closed)
			if e2 != api.OK {
				return nil, e2
			}
			by = append(by, api.Sub{Name: d.Params[i].Name, Term: r})
		}
		add(d.Body, by)
	}
	if e != api.OK {
		return nil, e
	}
	return tree.And(parts...), api.OK
}

// Definition returns the definition of a predicate by the images of its clauses.
func Definition(s api.System, p api.Func, m api.Model) (api.Def, api.Errno) {
	var images []api.Term
	for _, c := range s.Clauses {
		if c.Head.Pred != p.Name {
			continue
		}
		t, e := Image(p, c, m)
		if e != api.OK {
			return api.Def{}, api.ErrLimit
		}
		images = append(images, t)
	}
	return api.Def{Pred: p.Name, Params: Targets(p), Body: tree.Or(images...)}, api.OK
}

// Resolvent returns the resolvent of a clause at some atoms of its body with a clause for each of them.
func Resolvent(s api.System, c api.Clause, atoms []int, with []api.Clause) api.Clause {
	used := slices.Concat(PredNames(s), tree.Names(c.Vars))
	out := api.Clause{Vars: slices.Clone(c.Vars), Head: c.Head}
	parts := []api.Term{c.Guard}
	for i, a := range c.Body {
		k := slices.Index(atoms, i)
		if k < 0 {
			out.Body = append(out.Body, a)
			continue
		}
		from := tree.Names(with[k].Vars)
		var to []string
		for _, name := range from {
			x := subst.Fresh(name, used)
			used, to = append(used, x), append(to, x)
		}
		d := renamed(with[k], from, to)
		out.Vars = append(out.Vars, d.Vars...)
		out.Body = append(out.Body, d.Body...)
		for j, t := range a.Args {
			parts = append(parts, tree.Eq(t, d.Head.Args[j]))
		}
		parts = append(parts, d.Guard)
	}
	out.Guard = tree.And(parts...)
	return out
}

// Contract returns the node of a resolvent for a node and its children at some atoms.
func Contract(n *Node, atoms []int, clause int) *Node {
	out := &Node{Clause: clause, Values: slices.Clone(n.Values)}
	for i, k := range n.Kids {
		if slices.Contains(atoms, i) {
			out.Values = append(out.Values, k.Values...)
			out.Kids = append(out.Kids, k.Kids...)
		} else {
			out.Kids = append(out.Kids, k)
		}
	}
	return out
}

// Expand returns the node of a clause for a node of its resolvent at some atoms with the clauses with these indices.
func Expand(s api.System, n *Node, clause int, atoms, with []int) *Node {
	c := s.Clauses[clause]
	values, kids := n.Values[len(c.Vars):], n.Kids
	out := &Node{Clause: clause, Values: n.Values[:len(c.Vars)]}
	for i := range c.Body {
		k := slices.Index(atoms, i)
		if k < 0 {
			out.Kids = append(out.Kids, kids[0])
			kids = kids[1:]
			continue
		}
		d := s.Clauses[with[k]]
		out.Kids = append(out.Kids, &Node{Clause: with[k], Values: values[:len(d.Vars)], Kids: kids[:len(d.Body):len(d.Body)]})
		values, kids = values[len(d.Vars):], kids[len(d.Body):]
	}
	return out
}

// ClausesOf returns the indices of the clauses with a predicate as head.
func ClausesOf(s api.System, pred string) []int {
	var l []int
	for i, c := range s.Clauses {
		if c.Head.Pred == pred {
			l = append(l, i)
		}
	}
	return l
}
