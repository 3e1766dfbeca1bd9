package tree

import (
	"slices"

	"chcsolver/api"
)

// CloneValue returns a copy of a value.
func CloneValue(v api.Value) api.Value {
	v.Keys, v.Vals = slices.Clone(v.Keys), slices.Clone(v.Vals)
	return v
}

// CloneValues returns copies of values.
func CloneValues(l []api.Value) []api.Value {
	out := make([]api.Value, len(l))
	for i, v := range l {
		out[i] = CloneValue(v)
	}
	return out
}

// CloneNode returns a copy of a node of a derivation.
func CloneNode(n api.TreeNode) api.TreeNode {
	n.Values = CloneValues(n.Values)
	return n
}

// CloneTree returns a copy of a derivation.
func CloneTree(t api.Tree) api.Tree {
	out := make(api.Tree, len(t))
	for i, n := range t {
		out[i] = CloneNode(n)
	}
	return out
}

// CloneTerms returns copies of terms.
func CloneTerms(l []api.Term) []api.Term {
	out := make([]api.Term, len(l))
	for i, t := range l {
		out[i] = Clone(t)
	}
	return out
}

// CloneDef returns a copy of a definition.
func CloneDef(d api.Def) api.Def {
	d.Params, d.Body = slices.Clone(d.Params), Clone(d.Body)
	return d
}

// CloneModel returns a copy of a model.
func CloneModel(m api.Model) api.Model {
	out := api.Model{Defs: make([]api.Def, len(m.Defs))}
	for i, d := range m.Defs {
		out.Defs[i] = CloneDef(d)
	}
	return out
}

// CloneApp returns a copy of an atom.
func CloneApp(a api.App) api.App {
	a.Args = CloneTerms(a.Args)
	return a
}

// CloneClause returns a copy of a clause.
func CloneClause(c api.Clause) api.Clause {
	body := make([]api.App, len(c.Body))
	for i, a := range c.Body {
		body[i] = CloneApp(a)
	}
	return api.Clause{Vars: slices.Clone(c.Vars), Body: body, Guard: Clone(c.Guard), Head: CloneApp(c.Head)}
}

// CloneFunc returns a copy of a signature.
func CloneFunc(f api.Func) api.Func {
	f.Args = slices.Clone(f.Args)
	return f
}

// CloneSystem returns a copy of a system.
func CloneSystem(s api.System) api.System {
	out := api.System{Preds: make([]api.Func, len(s.Preds)), Clauses: make([]api.Clause, len(s.Clauses))}
	for i, p := range s.Preds {
		out.Preds[i] = CloneFunc(p)
	}
	for i, c := range s.Clauses {
		out.Clauses[i] = CloneClause(c)
	}
	return out
}
