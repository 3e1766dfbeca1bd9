// Package encode holds what the encodings of programs have in common.
package encode

import (
	"slices"
	"strconv"

	"chcsolver/api"
	"chcsolver/certificate"
	"chcsolver/subst"
	"chcsolver/system"
	"chcsolver/tree"
	"chcsolver/value"
)

// Output collects the clauses of an encoding with their origins.
type Output struct {
	System  api.System
	Origins []api.Origin
}

// Predicate declares the predicate of a procedure with a suffix.
func (o *Output) Predicate(proc, suffix string, vars []api.Var) {
	f := api.Func{Name: proc + "." + suffix, Result: api.SortBool}
	for _, v := range vars {
		f.Args = append(f.Args, v.Sort)
	}
	o.System.Preds = append(o.System.Preds, f)
}

// Add appends a clause; its terms may share memory, since Result copies everything.
func (o *Output) Add(c api.Clause, kind, proc int, edges ...int) {
	o.System.Clauses = append(o.System.Clauses, c)
	o.Origins = append(o.Origins, api.Origin{Kind: kind, Proc: proc, Edges: slices.Clone(edges)})
}

// Result returns the system and the origins, or ErrLimit if the system is not valid.
func (o *Output) Result() (api.System, []api.Origin, api.Errno) {
	if !system.Valid(o.System) {
		return api.System{}, nil, api.ErrLimit
	}
	return tree.CloneSystem(o.System), o.Origins, api.OK
}

// Location returns the suffix of the predicate of a location.
func Location(at int) string { return strconv.Itoa(at) }

// Params returns the parameters of a graph.
func Params(g api.Graph) []api.Var { return g.Vars[:g.Params] }

// Atom returns the atom of a predicate of a procedure.
func Atom(proc, suffix string, args []api.Term) api.App {
	return api.App{Pred: proc + "." + suffix, Args: args}
}

// Zeros returns the terms of the zeros of variables.
func Zeros(vars []api.Var) []api.Term {
	var l []api.Term
	for _, v := range ZeroValues(vars) {
		t, _ := value.Term(v)
		l = append(l, t)
	}
	return l
}

// ZeroValues returns the zeros of variables.
func ZeroValues(vars []api.Var) []api.Value {
	var l []api.Value
	for _, v := range vars {
		zero, _ := value.Zero(v.Sort)
		l = append(l, zero)
	}
	return l
}

// Names makes new variables of a clause.
type Names struct {
	used []string
	New  []api.Var
}

// NewNames returns a maker of variables that differ from the given ones.
func NewNames(vars []api.Var) *Names { return &Names{used: tree.Names(vars)} }

// Fresh returns a new variable for a variable.
func (n *Names) Fresh(v api.Var) api.Var {
	x := api.Var{Name: subst.Fresh(v.Name, n.used), Sort: v.Sort}
	n.used, n.New = append(n.used, x.Name), append(n.New, x)
	return x
}

// Invariant returns the formula of a definition over the given variables in place of its parameters.
func Invariant(d api.Def, vars []api.Var) api.Term {
	t, _ := subst.Rename(d.Body, tree.Names(d.Params), tree.Names(vars))
	return t
}

// Assembler appends the nodes of a tree in preorder, up to the limit.
type Assembler struct{ Tree api.Tree }

// Node appends a node; it returns false if there would be too many.
func (a *Assembler) Node(clause, kids int, values ...[]api.Value) bool {
	if len(a.Tree) == api.MaxTree {
		return false
	}
	a.Tree = append(a.Tree, api.TreeNode{Clause: clause, Kids: kids, Values: tree.CloneValues(slices.Concat(values...))})
	return true
}

// Walk calls inputs for each node of a refutation after its children, with the inputs of each child,
// and returns the result for the root.
func Walk(t api.Tree, inputs func(n api.TreeNode, kids [][]api.Value) []api.Value) []api.Value {
	ends, _ := tree.Ends(len(t), func(i int) int { return t[i].Kids })
	results := make([][]api.Value, len(t))
	for i := len(t) - 1; i >= 0; i-- {
		var kids [][]api.Value
		for _, k := range tree.Children(ends, i+1, ends[i]) {
			kids = append(kids, results[k])
		}
		results[i] = inputs(t[i], kids)
	}
	return tree.CloneValues(results[0])
}

// MainArguments returns the values of the node that is reached from the root by going to the first child again and again.
func MainArguments(t api.Tree) []api.Value {
	i := 0
	for t[i].Kids > 0 {
		i++
	}
	return tree.CloneValues(t[i].Values)
}

// Check returns the error of a tree that is no refutation of the system of an encoding.
func Check(s api.System, t api.Tree) api.Errno {
	if !certificate.Refutes(s, t) {
		return api.ErrProof
	}
	return api.OK
}
