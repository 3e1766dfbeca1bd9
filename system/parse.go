package system

import (
	"slices"

	"chcsolver/api"
	"chcsolver/sexpr"
	"chcsolver/term"
	"chcsolver/tree"
)

type parser struct {
	items []api.Item
	ends  []int
	s     api.System
	preds map[string]int
	vars  map[string]bool // the names of the variables of all clauses so far
	pos   int             // the offset of an error that is not at its command, or -1
}

// Parse reads a script, or returns the first error and its offset.
func Parse(src string) (api.System, int, api.Errno) {
	items, at, e := sexpr.Parse(src)
	if e != api.OK {
		return api.System{}, at, e
	}
	p := &parser{items: items, preds: map[string]int{}, vars: map[string]bool{}, pos: -1}
	p.ends, _ = tree.Ends(len(items), func(i int) int { return items[i].Kids })
	for _, i := range tree.Children(p.ends, 0, len(items)) {
		if e := p.command(i); e != api.OK {
			if p.pos < 0 {
				p.pos = items[i].Pos
			}
			return api.System{}, p.pos, e
		}
	}
	return p.s, 0, api.OK
}

// isSymbol reports whether item i is the given symbol.
func (p *parser) isSymbol(i int, s string) bool {
	return p.items[i].Kind == api.ItemSymbol && p.items[i].Text == s
}

// elements returns the elements of item i, and whether it is a list.
func (p *parser) elements(i int) ([]int, bool) {
	return tree.Children(p.ends, i+1, p.ends[i]), p.items[i].Kind == api.ItemList
}

// name returns the name that item i is, or the empty string.
func (p *parser) name(i int) string {
	if p.items[i].Kind == api.ItemSymbol && term.IsName(p.items[i].Text) {
		return p.items[i].Text
	}
	return ""
}

func (p *parser) command(i int) api.Errno {
	l, is := p.elements(i)
	if !is || len(l) == 0 || p.items[l[0]].Kind != api.ItemSymbol {
		return api.ErrSyntax
	}
	switch p.items[l[0]].Text {
	case "set-logic", "set-info", "set-option", "check-sat", "get-model", "exit":
		return api.OK
	case "declare-fun":
		return p.declare(l[1:])
	case "assert":
		return p.assert(l[1:])
	}
	return api.ErrSyntax
}

func (p *parser) declare(l []int) api.Errno {
	if len(l) != 3 {
		return api.ErrSyntax
	}
	f := api.Func{Name: p.name(l[0]), Result: tree.ReadSort(p.items, l[2])}
	sorts, is := p.elements(l[1])
	for _, i := range sorts {
		f.Args = append(f.Args, tree.ReadSort(p.items, i))
	}
	if f.Name == "" || f.Result == 0 || !is || slices.Contains(f.Args, 0) {
		return api.ErrSyntax
	}
	if f.Result != api.SortBool {
		return api.ErrSort
	}
	if _, twice := p.preds[f.Name]; twice || p.vars[f.Name] {
		return api.ErrDuplicate
	}
	if len(f.Args) > api.MaxArity || len(p.s.Preds) == api.MaxPreds {
		return api.ErrLimit
	}
	p.preds[f.Name] = len(p.s.Preds)
	p.s.Preds = append(p.s.Preds, f)
	return api.OK
}

func (p *parser) assert(l []int) api.Errno {
	if len(l) != 1 {
		return api.ErrSyntax
	}
	body := l[0]
	var vars []api.Var
	if parts, is := p.elements(body); is && len(parts) > 0 && p.isSymbol(parts[0], "forall") {
		var e api.Errno
		if vars, e = p.forall(parts[1:]); e != api.OK {
			return e
		}
		body = parts[2]
	}
	all := slices.Clone(vars)
	var funcs []api.Func
	for _, f := range p.s.Preds {
		if len(f.Args) > 0 {
			funcs = append(funcs, f)
		} else {
			all = append(all, api.Var{Name: f.Name, Sort: api.SortBool})
		}
	}
	t, at, e := term.Read(p.items[body:p.ends[body]], 0, all, funcs)
	if e != api.OK {
		p.pos = p.items[body+at].Pos
		return e
	}
	if tree.SortOf(t) != api.SortBool {
		return api.ErrSort
	}
	for _, v := range vars {
		p.vars[v.Name] = true
	}
	return p.clause(vars, t)
}

func (p *parser) forall(l []int) ([]api.Var, api.Errno) {
	if len(l) != 2 {
		return nil, api.ErrSyntax
	}
	decls, is := p.elements(l[0])
	if !is || len(decls) == 0 {
		return nil, api.ErrSyntax
	}
	var vars []api.Var
	for _, d := range decls {
		pair, is := p.elements(d)
		if !is || len(pair) != 2 || p.name(pair[0]) == "" || tree.ReadSort(p.items, pair[1]) == 0 {
			return nil, api.ErrSyntax
		}
		vars = append(vars, api.Var{Name: p.name(pair[0]), Sort: tree.ReadSort(p.items, pair[1])})
	}
	seen := map[string]bool{}
	for _, v := range vars {
		if _, isPred := p.preds[v.Name]; isPred || seen[v.Name] {
			return nil, api.ErrDuplicate
		}
		seen[v.Name] = true
	}
	return vars, api.OK
}

func (p *parser) isPred(n api.Node) bool {
	_, is := p.preds[n.Name]
	return is && (n.Op == api.OpApply || n.Op == api.OpVar)
}

func (p *parser) containsAtom(t api.Term) bool { return slices.ContainsFunc(t, p.isPred) }

// atom returns the application that a term is, whose arguments must not contain atoms.
func (p *parser) atom(t api.Term) (api.App, api.Errno) {
	a := api.App{Pred: t[0].Name}
	if p.containsAtom(t[1:]) {
		return a, api.ErrForm
	}
	for _, k := range tree.Kids(t) {
		a.Args = append(a.Args, tree.Clone(k))
	}
	return a, api.OK
}

// parts returns the parts of a body.
func (p *parser) parts(t api.Term) []api.Term {
	var l []api.Term
	for _, k := range tree.Kids(t) {
		if k[0].Op == api.OpAnd && p.containsAtom(k) {
			l = append(l, p.parts(k)...)
		} else {
			l = append(l, k)
		}
	}
	return l
}

// clause adds the clause that a formula denotes.
func (p *parser) clause(vars []api.Var, t api.Term) api.Errno {
	c := api.Clause{Vars: vars}
	var parts []api.Term
	head := t
	switch t[0].Op {
	case api.OpImplies:
		kids := tree.Kids(t)
		parts, head = []api.Term{kids[0]}, kids[1]
	case api.OpNot:
		parts, head = []api.Term{t[1:]}, tree.False()
	}
	if len(parts) == 1 && parts[0][0].Op == api.OpAnd {
		parts = p.parts(parts[0])
	}
	switch {
	case p.isPred(head[0]):
		var e api.Errno
		if c.Head, e = p.atom(head); e != api.OK {
			return e
		}
	case p.containsAtom(head):
		return api.ErrForm
	case head[0].Op != api.OpFalse:
		parts = append(parts, tree.Not(head))
	}
	var guards []api.Term
	for _, k := range parts {
		if p.isPred(k[0]) {
			a, e := p.atom(k)
			if e != api.OK {
				return e
			}
			c.Body = append(c.Body, a)
			continue
		}
		if p.containsAtom(k) {
			return api.ErrForm
		}
		guards = append(guards, k)
	}
	switch len(guards) {
	case 0:
		c.Guard = tree.True()
	case 1:
		c.Guard = tree.Clone(guards[0])
	default:
		c.Guard = tree.And(guards...)
	}
	if len(vars) > api.MaxVars || len(c.Body) > api.MaxBody || len(p.s.Clauses) == api.MaxClauses || !tree.Fits(c.Guard) {
		return api.ErrLimit
	}
	p.s.Clauses = append(p.s.Clauses, c)
	return api.OK
}
