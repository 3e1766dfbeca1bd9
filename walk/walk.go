// Package walk holds what flow graphs and the encodings of programs share: heads of loops, paths and effects.
package walk

import (
	"slices"

	"chcsolver/api"
	"chcsolver/subst"
	"chcsolver/tree"
)

// Outs returns the edges that begin at each location of a graph.
func Outs(g api.Graph) [][]int {
	l := make([][]int, g.Locations)
	for i, e := range g.Edges {
		l[e.From] = append(l[e.From], i)
	}
	return l
}

// Heads reports which locations are the ends of edges that a depth-first search considers while it visits them.
func Heads(g api.Graph) []bool {
	heads := make([]bool, g.Locations)
	out := Outs(g)
	const visiting, visited = 1, 2
	state := make([]int, g.Locations)
	var visit func(at int)
	visit = func(at int) {
		state[at] = visiting
		for _, i := range out[at] {
			to := g.Edges[i].To
			switch state[to] {
			case 0:
				visit(to)
			case visiting:
				heads[to] = true
			}
		}
		state[at] = visited
	}
	for at := range g.Locations {
		if state[at] == 0 {
			visit(at)
		}
	}
	return heads
}

// Paths returns the paths from a location to the next stops in lexicographic order, and false if there are too many.
// Every cycle of the graph must contain a stop.
func Paths(g api.Graph, from int, stops []bool) ([][]int, bool) {
	out := Outs(g)
	leads := leading(g, out, stops)
	var l [][]int
	var path []int
	var extend func(at int)
	extend = func(at int) {
		for _, i := range out[at] {
			to := g.Edges[i].To
			if len(l) > api.MaxPaths || !leads[to] {
				continue
			}
			path = append(path, i)
			if stops[to] {
				l = append(l, slices.Clone(path))
			} else {
				extend(to)
			}
			path = path[:len(path)-1]
		}
	}
	extend(from)
	if len(l) > api.MaxPaths {
		return nil, false
	}
	return l, true
}

// leading reports for each location whether a path leads from it to a stop, or it is one.
// Without it, the search could follow very many ways that all end nowhere.
func leading(g api.Graph, out [][]int, stops []bool) []bool {
	leads, seen := slices.Clone(stops), slices.Clone(stops)
	var visit func(at int)
	visit = func(at int) {
		seen[at] = true
		for _, i := range out[at] {
			to := g.Edges[i].To
			if !seen[to] {
				visit(to)
			}
			leads[at] = leads[at] || leads[to]
		}
	}
	for at := range stops {
		if !seen[at] {
			visit(at)
		}
	}
	return leads
}

// Effect is what the edges of a path did so far.
type Effect struct {
	Conditions []api.Term
	New        []api.Var // the new variables, in order
	vars       []api.Var
	terms      map[string]api.Term
	names      []string // those of the variables and of the new ones
}

// NewEffect returns the effect of no edges on the variables of a graph; further names are not used for new variables.
func NewEffect(vars []api.Var, further ...string) *Effect {
	f := &Effect{vars: vars, terms: map[string]api.Term{}, names: append(tree.Names(vars), further...)}
	for _, v := range vars {
		f.terms[v.Name] = tree.Of(v)
	}
	return f
}

// Apply returns a term with the current substitution.
func (f *Effect) Apply(t api.Term) (api.Term, api.Errno) {
	var s []api.Sub
	for _, v := range tree.Vars(t) {
		s = append(s, api.Sub{Name: v.Name, Term: f.terms[v.Name]})
	}
	return subst.Apply(t, s)
}

// Fresh returns a new variable for a variable.
func (f *Effect) Fresh(v api.Var) api.Var {
	x := api.Var{Name: subst.Fresh(v.Name, f.names), Sort: v.Sort}
	f.New, f.names = append(f.New, x), append(f.names, x.Name)
	return x
}

// Set replaces the term of a variable.
func (f *Effect) Set(name string, t api.Term) { f.terms[name] = t }

// Terms returns the terms of the variables.
func (f *Effect) Terms() []api.Term {
	var l []api.Term
	for _, v := range f.vars {
		l = append(l, f.terms[v.Name])
	}
	return l
}

// Pass processes a command that is no call.
func (f *Effect) Pass(c api.Cmd) api.Errno {
	switch c.Kind {
	case api.CmdAssign:
		t, e := f.Apply(c.Terms[0])
		f.terms[c.Names[0]] = t
		return e
	case api.CmdHavoc:
		i := slices.IndexFunc(f.vars, func(v api.Var) bool { return v.Name == c.Names[0] })
		f.terms[c.Names[0]] = tree.Of(f.Fresh(f.vars[i]))
	case api.CmdAssume, api.CmdAssert:
		t, e := f.Apply(c.Terms[0])
		f.Conditions = append(f.Conditions, t)
		return e
	}
	return api.OK
}
