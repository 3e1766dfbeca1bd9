package encode

import (
	"slices"
	"strconv"
	"strings"

	"chcsolver/api"
	"chcsolver/tree"
)

// Main adds the clause that states that main is called with any arguments.
func (o *Output) Main(graphs []api.Graph) {
	for i, g := range graphs {
		if g.Proc == "main" {
			p := Params(g)
			o.Add(api.Clause{Vars: p, Guard: tree.True(), Head: Atom("main", "in", tree.OfAll(p))}, api.OriginMain, i)
		}
	}
}

// Entry adds the clause with which a procedure begins.
func (o *Output) Entry(graphs []api.Graph, proc int) {
	g := graphs[proc]
	p := Params(g)
	o.Add(api.Clause{Vars: p, Guard: tree.True(), Head: Atom(g.Proc, "0", Initial(g))}, api.OriginEntry, proc)
}

// Initial returns the terms of the variables at the entry of a procedure.
func Initial(g api.Graph) []api.Term {
	return append(tree.OfAll(Params(g)), Zeros(g.Vars[g.Params:])...)
}

// Called returns the number of the graph of a procedure.
func Called(graphs []api.Graph, name string) int {
	return slices.IndexFunc(graphs, func(g api.Graph) bool { return g.Proc == name })
}

// At returns the atom that a procedure is at a location with the values of its variables.
func At(g api.Graph, location int) api.App {
	return Atom(g.Proc, Location(location), tree.OfAll(g.Vars))
}

// In returns the atom that a procedure was called with the values of its parameters.
func In(g api.Graph) api.App { return Atom(g.Proc, "in", tree.OfAll(Params(g))) }

// VarIndex returns the index of a variable of a graph.
func VarIndex(g api.Graph, name string) int {
	return slices.IndexFunc(g.Vars, func(v api.Var) bool { return v.Name == name })
}

// Call adds the two clauses of an edge that is a call.
func (o *Output) Call(graphs []api.Graph, proc, edge int) {
	g := graphs[proc]
	d := g.Edges[edge]
	h := graphs[Called(graphs, d.Cmd.Names[0])]
	o.Add(api.Clause{Vars: g.Vars, Body: []api.App{In(g), At(g, d.From)}, Guard: tree.True(), Head: Atom(h.Proc, "in", d.Cmd.Terms)}, api.OriginCall, proc, edge)
	names, terms, args := NewNames(g.Vars), tree.OfAll(g.Vars), slices.Clone(d.Cmd.Terms)
	for i, v := range h.Vars[h.Params:] {
		t := tree.Of(names.Fresh(v))
		args = append(args, t)
		if i < h.Results {
			terms[VarIndex(g, d.Cmd.Names[1+i])] = t
		}
	}
	o.Add(api.Clause{Vars: slices.Concat(g.Vars, names.New), Body: []api.App{At(g, d.From), Atom(h.Proc, "1", args)}, Guard: tree.True(), Head: Atom(g.Proc, Location(d.To), terms)}, api.OriginPath, proc, edge)
}

// Key returns a text for an origin that is the same for equal ones only.
func Key(kind, proc int, edges []int) string {
	parts := []string{strconv.Itoa(kind), strconv.Itoa(proc)}
	for _, e := range edges {
		parts = append(parts, strconv.Itoa(e))
	}
	return strings.Join(parts, " ")
}

// Index returns a map from the keys of origins to the indices of their clauses.
func Index(origins []api.Origin) map[string]int {
	m := map[string]int{}
	for i, o := range origins {
		m[Key(o.Kind, o.Proc, o.Edges)] = i
	}
	return m
}
