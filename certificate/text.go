package certificate

import (
	"strconv"
	"strings"

	"chcsolver/api"
	"chcsolver/number"
	"chcsolver/sexpr"
	"chcsolver/system"
	"chcsolver/term"
	"chcsolver/tree"
	"chcsolver/value"
)

// FormatModel writes each definition on a line of its own.
func FormatModel(m api.Model) string {
	var b strings.Builder
	for _, d := range m.Defs {
		if !term.IsName(d.Pred) || len(d.Params) > api.MaxArity || !validDef(d) {
			return ""
		}
		var params []string
		for _, v := range d.Params {
			params = append(params, "("+v.Name+" "+tree.SortText(v.Sort)+")")
		}
		b.WriteString("(define-fun " + d.Pred + " (" + strings.Join(params, " ") + ") Bool " + term.Format(d.Body) + ")\n")
	}
	return b.String()
}

// text is a parsed source.
type text struct {
	items []api.Item
	ends  []int
}

func parseText(src string) (text, int, api.Errno) {
	items, at, e := sexpr.Parse(src)
	x := text{items: items}
	x.ends, _ = tree.Ends(len(items), func(i int) int { return items[i].Kids })
	return x, at, e
}

func (x text) children(i int) []int { return tree.Children(x.ends, i+1, x.ends[i]) }

func (x text) isList(i int) bool { return x.items[i].Kind == api.ItemList }

func (x text) isName(i int) bool {
	return x.items[i].Kind == api.ItemSymbol && term.IsName(x.items[i].Text)
}

// ParseModel reads definitions, or returns the first error and its offset.
func ParseModel(src string) (api.Model, int, api.Errno) {
	x, at, e := parseText(src)
	if e != api.OK {
		return api.Model{}, at, e
	}
	var m api.Model
	for _, i := range tree.Children(x.ends, 0, len(x.items)) {
		d, at, e := x.definition(i)
		if e != api.OK {
			return api.Model{}, x.items[at].Pos, e
		}
		m.Defs = append(m.Defs, d)
	}
	return m, 0, api.OK
}

// definition reads a definition, or returns an error and the index of its item.
func (x text) definition(i int) (api.Def, int, api.Errno) {
	l := x.children(i)
	if !x.isList(i) || len(l) != 5 || x.items[l[0]].Kind != api.ItemSymbol || x.items[l[0]].Text != "define-fun" || !x.isName(l[1]) || !x.isList(l[2]) || tree.ReadSort(x.items, l[3]) != api.SortBool {
		return api.Def{}, i, api.ErrSyntax
	}
	d := api.Def{Pred: x.items[l[1]].Text}
	for _, p := range x.children(l[2]) {
		if !x.isList(p) || x.items[p].Kids != 2 || !x.isName(p+1) || tree.ReadSort(x.items, p+2) == 0 {
			return api.Def{}, i, api.ErrSyntax
		}
		d.Params = append(d.Params, api.Var{Name: x.items[p+1].Text, Sort: tree.ReadSort(x.items, p+2)})
	}
	seen := map[string]bool{}
	for _, v := range d.Params {
		if seen[v.Name] {
			return api.Def{}, i, api.ErrDuplicate
		}
		seen[v.Name] = true
	}
	if len(d.Params) > api.MaxArity {
		return api.Def{}, i, api.ErrLimit
	}
	t, at, e := term.Read(x.items[l[4]:x.ends[l[4]]], 0, d.Params, nil)
	if e != api.OK {
		return api.Def{}, l[4] + at, e
	}
	if tree.SortOf(t) != api.SortBool {
		return api.Def{}, i, api.ErrSort
	}
	d.Body = t
	return d, 0, api.OK
}

// FormatTree writes a tree that fits the system in one line.
func FormatTree(s api.System, t api.Tree) string {
	if e := CheckTree(s, t); e != api.OK && e != api.ErrProof {
		return ""
	}
	var b strings.Builder
	if _, is := writeTree(&b, t, 0); !is {
		return ""
	}
	return b.String()
}

// writeTree writes the subtree at node i and returns the index after it, and false if a value has no text.
func writeTree(b *strings.Builder, t api.Tree, i int) (int, bool) {
	var vals []string
	for _, v := range t[i].Values {
		text := value.Format(v)
		if text == "" {
			return 0, false
		}
		vals = append(vals, text)
	}
	b.WriteString("(" + strconv.Itoa(t[i].Clause) + " (" + strings.Join(vals, " ") + ")")
	next := i + 1
	for range t[i].Kids {
		b.WriteByte(' ')
		var is bool
		if next, is = writeTree(b, t, next); !is {
			return 0, false
		}
	}
	b.WriteByte(')')
	return next, true
}

// ParseTree reads a tree that fits the system, or returns the first error and its offset.
func ParseTree(s api.System, src string) (api.Tree, int, api.Errno) {
	if !system.Valid(s) {
		return nil, 0, api.ErrInvalid
	}
	x, at, e := parseText(src)
	if e != api.OK {
		return nil, at, e
	}
	roots := tree.Children(x.ends, 0, len(x.items))
	if len(roots) == 0 {
		return nil, len(src), api.ErrSyntax
	}
	if len(roots) > 1 {
		return nil, x.items[roots[1]].Pos, api.ErrSyntax
	}
	r := &treeReader{text: x, s: s}
	if at, e := r.node(0); e != api.OK {
		return nil, x.items[at].Pos, e
	}
	return r.out, 0, api.OK
}

type treeReader struct {
	text
	s   api.System
	out api.Tree
}

// node reads the subtree that item i denotes, or returns the index of an item and an error.
func (r *treeReader) node(i int) (int, api.Errno) {
	l := r.children(i)
	if !r.isList(i) || len(l) < 2 || r.items[l[0]].Kind != api.ItemNumeral || !r.isList(l[1]) {
		return i, api.ErrSyntax
	}
	k, is := number.Int(r.items[l[0]].Text)
	if !is || k >= len(r.s.Clauses) || len(l)-2 != len(r.s.Clauses[k].Body) {
		return i, api.ErrForm
	}
	n := api.TreeNode{Clause: k, Kids: len(l) - 2}
	vals := r.children(l[1])
	if len(vals) != len(r.s.Clauses[k].Vars) {
		return i, api.ErrSort
	}
	for j, at := range vals {
		t, _, e := term.Read(r.items[at:r.ends[at]], 0, nil, nil)
		if e != api.OK {
			return i, api.ErrSort
		}
		v, e := value.Eval(t, nil, nil)
		if e != api.OK || v.Sort != r.s.Clauses[k].Vars[j].Sort {
			return i, api.ErrSort
		}
		n.Values = append(n.Values, v)
	}
	if len(r.out) == api.MaxTree {
		return i, api.ErrLimit
	}
	r.out = append(r.out, n)
	for _, kid := range l[2:] {
		if at, e := r.node(kid); e != api.OK {
			return at, e
		}
	}
	return 0, api.OK
}
