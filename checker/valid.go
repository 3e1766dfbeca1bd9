package checker

import (
	"slices"
	"strings"

	"chcsolver/api"
	"chcsolver/exact"
	"chcsolver/fol"
	"chcsolver/linear"
	"chcsolver/prop"
	"chcsolver/simplify"
	"chcsolver/subst"
	"chcsolver/term"
	"chcsolver/tree"
	"chcsolver/value"
)

// read is a variable for the element of an array at an index.
type read struct {
	name  string
	array string
	index api.Term
}

// problem is the search for an assignment under which a formula is false.
type problem struct {
	budget  int
	used    []string
	reads   []read
	names   map[string]string // of the reads, by their texts
	sat     *prop.Solver
	numbers map[string]int
	atoms   []api.Term // the comparisons
	vars    []int      // their propositional variables
	bools   map[string]int
	point   map[string]exact.Rat
}

func isArray(t api.Term) bool { return tree.SortOf(t) == api.SortArray }

// Valid decides whether a formula is true under all assignments.
func Valid(f api.Term, budget int) (int, []api.Binding, api.Errno) {
	if !fol.IsFormula(f) || budget < 0 || budget > api.MaxBudget {
		return 0, nil, api.ErrInvalid
	}
	for i, n := range f {
		if n.Op == api.OpEq && isArray(f[i+1:]) {
			return 0, nil, api.ErrForm
		}
	}
	p := &problem{budget: budget, names: map[string]string{}, sat: prop.New(), numbers: map[string]int{}, bools: map[string]int{}}
	g, e := p.prepare(f)
	if e != api.OK {
		return 0, nil, e
	}
	p.sat.Add([]int{p.literal(g)})
	answer := p.decide()
	if answer != api.Sat {
		return answer, nil, api.OK
	}
	return api.Sat, p.counter(f), api.OK
}

// tooLarge is what the rewriting panics with if a term gets too large.
type tooLarge struct{}

// prepare returns the negation of a formula without quotients and reads.
func (p *problem) prepare(f api.Term) (g api.Term, e api.Errno) {
	defer func() {
		if x := recover(); x != nil {
			if _, is := x.(tooLarge); !is {
				panic(x)
			}
			g, e = nil, api.ErrLimit
		}
	}()
	p.used = tree.Names(tree.Vars(f))
	if !term.Valid(tree.Not(f)) {
		return nil, api.ErrLimit
	}
	rewritten := expand(tree.Not(f))
	pure, vars, e := simplify.Purify(rewritten, p.used)
	if e != api.OK {
		return nil, api.ErrLimit
	}
	p.used = append(p.used, tree.Names(vars)...)
	parts := []api.Term{p.replace(pure)}
	for i, r := range p.reads {
		for _, s := range p.reads[:i] {
			if r.array == s.array {
				parts = append(parts, tree.Or(tree.Not(tree.Eq(s.index, r.index)), tree.Eq(tree.Var(s.name, api.SortInt), tree.Var(r.name, api.SortInt))))
			}
		}
	}
	return tree.And(parts...), api.OK
}

// expand returns a term whose reads are applied to array variables only.
func expand(t api.Term) api.Term {
	kids := tree.Kids(t)
	for i, k := range kids {
		kids[i] = expand(k)
	}
	if t[0].Op != api.OpSelect {
		return checked(tree.Node(t[0], kids...))
	}
	return readOf(kids[0], kids[1])
}

func checked(t api.Term) api.Term {
	if len(t) > api.MaxNodes {
		panic(tooLarge{})
	}
	return t
}

// readOf returns the element of an array at an index, by cases.
func readOf(a, i api.Term) api.Term {
	kids := tree.Kids(a)
	switch a[0].Op {
	case api.OpConst:
		return kids[0]
	case api.OpStore:
		if tree.Equal(kids[1], i) {
			return kids[2]
		}
		return checked(tree.Node(api.Node{Op: api.OpIte}, tree.Eq(kids[1], i), kids[2], readOf(kids[0], i)))
	case api.OpIte:
		return checked(tree.Node(api.Node{Op: api.OpIte}, kids[0], readOf(kids[1], i), readOf(kids[2], i)))
	}
	return tree.Node(api.Node{Op: api.OpSelect}, a, i)
}

// replace replaces reads by variables, from the inside to the outside.
func (p *problem) replace(t api.Term) api.Term {
	kids := tree.Kids(t)
	for i, k := range kids {
		kids[i] = p.replace(k)
	}
	out := tree.Node(t[0], kids...)
	if t[0].Op != api.OpSelect {
		return out
	}
	key := tree.Key(out)
	if _, seen := p.names[key]; !seen {
		name := subst.Fresh("!r", p.used)
		p.used = append(p.used, name)
		p.names[key] = name
		p.reads = append(p.reads, read{name, kids[0][0].Name, kids[1]})
	}
	return tree.Var(p.names[key], api.SortInt)
}

// variable returns the propositional variable of a formula, and whether it is new.
func (p *problem) variable(t api.Term) (int, bool) {
	key := tree.Key(t)
	if v, seen := p.numbers[key]; seen {
		return v, false
	}
	v := len(p.numbers) + 1
	p.numbers[key] = v
	p.sat.Grow(v)
	return v, true
}

// literal returns the propositional literal of a formula and adds the clauses that define it.
func (p *problem) literal(t api.Term) int {
	if t[0].Op == api.OpNot {
		return -p.literal(t[1:])
	}
	v, isNew := p.variable(t)
	if !isNew {
		return v
	}
	if !tree.IsBoolConnective(t) {
		p.atom(t, v)
		return v
	}
	var l []int
	for _, k := range tree.Kids(t) {
		l = append(l, p.literal(k))
	}
	p.define(t[0].Op, v, l)
	return v
}

// define adds the clauses by which a variable is true exactly if a connective of literals is.
func (p *problem) define(op, v int, l []int) {
	switch op {
	case api.OpTrue:
		p.sat.Add([]int{v})
	case api.OpFalse:
		p.sat.Add([]int{-v})
	case api.OpAnd:
		long := []int{v}
		for _, k := range l {
			p.sat.Add([]int{-v, k})
			long = append(long, -k)
		}
		p.sat.Add(long)
	case api.OpOr:
		long := []int{-v}
		for _, k := range l {
			p.sat.Add([]int{v, -k})
			long = append(long, k)
		}
		p.sat.Add(long)
	case api.OpImplies:
		p.define(api.OpOr, v, []int{-l[0], l[1]})
	case api.OpEq:
		for _, c := range [][]int{{-v, -l[0], l[1]}, {-v, l[0], -l[1]}, {v, l[0], l[1]}, {v, -l[0], -l[1]}} {
			p.sat.Add(c)
		}
	case api.OpIte:
		for _, c := range [][]int{{-v, -l[0], l[1]}, {-v, l[0], l[2]}, {v, -l[0], -l[1]}, {v, l[0], -l[2]}} {
			p.sat.Add(c)
		}
	}
}

// atom enters an atom. The sides of an equation that is false are in one of the two orders.
func (p *problem) atom(t api.Term, v int) {
	if t[0].Op == api.OpVar {
		p.bools[t[0].Name] = v
		return
	}
	p.atoms, p.vars = append(p.atoms, t), append(p.vars, v)
	if t[0].Op == api.OpEq {
		kids := tree.Kids(t)
		p.sat.Add([]int{v, p.literal(tree.Lt(kids[0], kids[1])), p.literal(tree.Lt(kids[1], kids[0]))})
	}
}

// decide looks for truth values of the atoms that numbers can have.
func (p *problem) decide() (answer int) {
	defer func() {
		if x := recover(); x != nil {
			if _, is := x.(outOfBudget); !is {
				panic(x)
			}
			answer = api.Unknown
		}
	}()
	for {
		if is, _ := p.sat.Solve(nil); !is {
			return api.Unsat
		}
		p.point = map[string]exact.Rat{}
		if !p.refute(api.SortReal) && !p.refute(api.SortInt) {
			return api.Sat
		}
	}
}

// refute excludes the truth values of the comparisons of numbers of a sort, if no numbers have them.
func (p *problem) refute(sort int) bool {
	names := map[string]int{}
	var order []string
	var sums []api.Constraint
	var from []int
	for i, t := range p.atoms {
		if tree.SortOf(t[1:]) != sort {
			continue
		}
		c, is := comparison(t, p.sat.Value(p.vars[i]))
		if !is {
			continue
		}
		for _, k := range c.Lin.Coefs {
			if _, seen := names[k.Name]; !seen {
				names[k.Name] = len(order)
				order = append(order, k.Name)
			}
		}
		sums, from = append(sums, c), append(from, i)
	}
	var rows []row
	for i, c := range sums {
		r := row{c: make([]exact.Rat, len(order)), k: exact.Must(c.Lin.Const).Neg(), strict: c.Rel == api.RelLt, equal: c.Rel == api.RelEq, from: set{}.with(from[i])}
		for _, k := range c.Lin.Coefs {
			r.c[names[k.Name]] = exact.Must(k.Num)
		}
		rows = append(rows, r)
	}
	var point []exact.Rat
	var core set
	sat := false
	if sort == api.SortInt {
		point, core, sat = solveIntegers(len(order), rows, p.budget)
	} else {
		point, core, sat = relax(len(order), rows, false)
	}
	if sat {
		for i, name := range order {
			p.point[name] = point[i]
		}
		return false
	}
	var clause []int
	for _, i := range core.elements() {
		if p.sat.Value(p.vars[i]) {
			clause = append(clause, -p.vars[i])
		} else {
			clause = append(clause, p.vars[i])
		}
	}
	p.sat.Add(clause)
	return true
}

// comparison returns the constraint that an atom with a truth value states; an equation that is false states nothing.
func comparison(t api.Term, is bool) (api.Constraint, bool) {
	if !is {
		t = tree.Not(t)
	}
	c, e := linear.Atom(t)
	return c, e == api.OK && c.Mod == ""
}

// counter returns values of the variables of a formula under which it is false.
func (p *problem) counter(f api.Term) []api.Binding {
	var out []api.Binding
	for _, v := range tree.Vars(f) {
		x := api.Value{Sort: v.Sort}
		switch v.Sort {
		case api.SortBool:
			n, known := p.bools[v.Name]
			x.Bool = known && p.sat.Value(n)
		case api.SortArray:
			x = p.array(v.Name)
		default:
			x.Num = p.point[v.Name].String()
		}
		out = append(out, api.Binding{Name: v.Name, Value: x})
	}
	slices.SortFunc(out, func(a, b api.Binding) int { return strings.Compare(a.Name, b.Name) })
	return out
}

// array returns an array with the elements that were read.
func (p *problem) array(name string) api.Value {
	v := api.Value{Sort: api.SortArray, Num: "0"}
	for _, r := range p.reads {
		if r.array != name {
			continue
		}
		l, _ := linear.Of(r.index)
		at := exact.Must(l.Const)
		for _, c := range l.Coefs {
			at = at.Add(exact.Must(c.Num).Mul(p.point[c.Name]))
		}
		v, _ = value.Store(v, at.String(), p.point[r.name].String())
	}
	return v
}
