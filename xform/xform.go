// Package xform holds what the transformations of systems have in common.
package xform

import (
	"chcsolver/api"
	"chcsolver/certificate"
	"chcsolver/system"
	"chcsolver/tree"
	"chcsolver/value"
)

// Zero reports whether all fields of a transformation are zero.
func Zero(x api.Transform) bool {
	return x.Kind == 0 && x.Pred == "" && x.Into == "" && x.Clause == 0 && x.Atom == 0 && len(x.Unneeded) == 0 && len(x.Underived) == 0 && len(x.Drops) == 0
}

// Apply is the function of a layer that applies a transformation.
type Apply func(s api.System, x api.Transform) (api.System, api.Errno)

// Model maps a model of the transformed system by f to one of s.
func Model(apply Apply, s api.System, x api.Transform, m api.Model, f func(t api.System) (api.Model, api.Errno)) (api.Model, api.Errno) {
	t, e := apply(s, x)
	if e != api.OK {
		return api.Model{}, e
	}
	return mapModel(t, s, m, func() (api.Model, api.Errno) { return f(t) })
}

// ModelForward maps a model of s by f to one of the transformed system.
func ModelForward(apply Apply, s api.System, x api.Transform, m api.Model, f func(t api.System) (api.Model, api.Errno)) (api.Model, api.Errno) {
	t, e := apply(s, x)
	if e != api.OK {
		return api.Model{}, e
	}
	return mapModel(s, t, m, func() (api.Model, api.Errno) { return f(t) })
}

func mapModel(from, to api.System, m api.Model, f func() (api.Model, api.Errno)) (api.Model, api.Errno) {
	if !certificate.Shaped(from, m) {
		return api.Model{}, api.ErrInvalid
	}
	r, e := f()
	if e != api.OK {
		return api.Model{}, e
	}
	if !certificate.Shaped(to, r) {
		return api.Model{}, api.ErrLimit
	}
	return tree.CloneModel(r), api.OK
}

// Node is a node of a derivation with its subtrees.
type Node struct {
	Clause int
	Values []api.Value
	Kids   []*Node
}

// FromTree returns the root of a well-formed tree.
func FromTree(t api.Tree) *Node {
	at := 0
	var read func() *Node
	read = func() *Node {
		n := &Node{Clause: t[at].Clause, Values: t[at].Values}
		kids := t[at].Kids
		at++
		for range kids {
			n.Kids = append(n.Kids, read())
		}
		return n
	}
	return read()
}

// Tree returns the preorder of a node and its subtrees.
func (n *Node) Tree() api.Tree {
	var t api.Tree
	var write func(n *Node)
	write = func(n *Node) {
		t = append(t, api.TreeNode{Clause: n.Clause, Values: tree.CloneValues(n.Values), Kids: len(n.Kids)})
		for _, k := range n.Kids {
			write(k)
		}
	}
	write(n)
	return t
}

// Each replaces all nodes by f, which is called for a node after its subtrees were replaced.
func (n *Node) Each(f func(n *Node) *Node) *Node {
	for i, k := range n.Kids {
		n.Kids[i] = k.Each(f)
	}
	return f(n)
}

// Tree maps a derivation of the transformed system by f to one of s.
func Tree(apply Apply, s api.System, x api.Transform, d api.Tree, f func(t api.System, root *Node) (*Node, api.Errno)) (api.Tree, api.Errno) {
	t, e := apply(s, x)
	if e != api.OK {
		return nil, e
	}
	return mapTree(t, d, func(root *Node) (*Node, api.Errno) { return f(t, root) })
}

// TreeForward maps a derivation of s by f to one of the transformed system.
func TreeForward(apply Apply, s api.System, x api.Transform, d api.Tree, f func(t api.System, root *Node) (*Node, api.Errno)) (api.Tree, api.Errno) {
	t, e := apply(s, x)
	if e != api.OK {
		return nil, e
	}
	return mapTree(s, d, func(root *Node) (*Node, api.Errno) { return f(t, root) })
}

func mapTree(from api.System, d api.Tree, f func(root *Node) (*Node, api.Errno)) (api.Tree, api.Errno) {
	if certificate.CheckTree(from, d) != api.OK {
		return nil, api.ErrProof
	}
	root, e := f(FromTree(d))
	if e != api.OK {
		return nil, e
	}
	r := root.Tree()
	if len(r) > api.MaxTree {
		return nil, api.ErrLimit
	}
	return r, api.OK
}

// Result returns a copy of a transformed system, or ErrLimit if it is not valid.
func Result(s api.System) (api.System, api.Errno) {
	if !system.Valid(s) {
		return api.System{}, api.ErrLimit
	}
	return tree.CloneSystem(s), api.OK
}

// Bind returns the environment in which variables have values.
func Bind(vars []api.Var, vals []api.Value) []api.Binding {
	env := make([]api.Binding, len(vars))
	for i, v := range vars {
		env[i] = api.Binding{Name: v.Name, Value: vals[i]}
	}
	return env
}

// Values returns the values of terms.
func Values(l []api.Term, env []api.Binding) []api.Value {
	vals := make([]api.Value, len(l))
	for i, t := range l {
		vals[i], _ = value.Eval(t, env, nil)
	}
	return vals
}

// PredNames returns the names of the predicates of a system.
func PredNames(s api.System) []string {
	var l []string
	for _, p := range s.Preds {
		l = append(l, p.Name)
	}
	return l
}

// Occurs returns how often a predicate occurs in the body of a clause.
func Occurs(c api.Clause, pred string) int {
	n := 0
	for _, a := range c.Body {
		if a.Pred == pred {
			n++
		}
	}
	return n
}
