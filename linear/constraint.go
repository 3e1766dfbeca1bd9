package linear

import (
	"chcsolver/api"
	"chcsolver/exact"
	"chcsolver/number"
	"chcsolver/term"
	"chcsolver/tree"
)

// ValidConstraint reports whether a constraint is valid.
func ValidConstraint(c api.Constraint) bool {
	if !Valid(c.Lin) {
		return false
	}
	switch c.Rel {
	case api.RelLe, api.RelLt, api.RelEq:
		return c.Mod == ""
	case api.RelDivides, api.RelNotDivides:
		return c.Lin.Sort == api.SortInt && number.IsInt(c.Mod) && number.Sign(c.Mod) > 0
	}
	return false
}

// constant returns the constraint true or false.
func constant(is bool, sort int) api.Constraint {
	rel := api.RelLt
	if is {
		rel = api.RelLe
	}
	return api.Constraint{Rel: rel, Lin: api.Linear{Sort: sort, Const: "0"}}
}

// compares reports whether a number is in a relation to 0.
func compares(x exact.Rat, rel int) bool {
	switch rel {
	case api.RelLe:
		return x.Sign() <= 0
	case api.RelLt:
		return x.Sign() < 0
	}
	return x.IsZero()
}

// Normal returns the normal form of a constraint.
func Normal(c api.Constraint) (api.Constraint, api.Errno) {
	if !ValidConstraint(c) {
		return api.Constraint{}, api.ErrInvalid
	}
	switch {
	case c.Rel == api.RelDivides || c.Rel == api.RelNotDivides:
		return normalDivides(c), api.OK
	case len(c.Lin.Coefs) == 0:
		return constant(compares(exact.Must(c.Lin.Const), c.Rel), c.Lin.Sort), api.OK
	}
	return normalComparison(c), api.OK
}

// lcm returns the least common multiple of two positive integers.
func lcm(a, b exact.Int) exact.Int {
	q, _ := a.QuoRem(exact.Gcd(a, b))
	return q.Mul(b)
}

// primitive returns the positive number that makes the coefficients integers without a common divisor.
func primitive(coefs []api.Coef) exact.Rat {
	den, num := exact.FromInt64(1), exact.Int{}
	for _, c := range coefs {
		den = lcm(den, exact.Must(c.Num).Den())
	}
	for _, c := range coefs {
		num = exact.Gcd(num, exact.Must(c.Num).Mul(exact.FromInt(den)).Num())
	}
	return exact.Quotient(den, num)
}

func normalComparison(c api.Constraint) api.Constraint {
	k := primitive(c.Lin.Coefs)
	if c.Rel == api.RelEq && number.Sign(c.Lin.Coefs[0].Num) < 0 {
		k = k.Neg()
	}
	n := api.Constraint{Rel: c.Rel, Lin: scale(c.Lin, k)}
	if c.Lin.Sort != api.SortInt {
		return n
	}
	k = exact.Must(n.Lin.Const)
	switch {
	case c.Rel == api.RelLe:
		n.Lin.Const = k.Ceil().String()
	case c.Rel == api.RelLt:
		n.Rel = api.RelLe
		n.Lin.Const = k.Floor().Add(exact.FromInt64(1)).String()
	case !k.IsInt():
		return constant(false, api.SortInt)
	}
	return n
}

func normalDivides(c api.Constraint) api.Constraint {
	factor := exact.Must(c.Lin.Const).Den()
	for _, k := range c.Lin.Coefs {
		factor = lcm(factor, exact.Must(k.Num).Den())
	}
	mod := exact.Must(c.Mod).Num().Mul(factor)
	rest := func(s string) exact.Int {
		_, r := exact.Must(s).Mul(exact.FromInt(factor)).Num().QuoRem(mod)
		return r
	}
	g := mod
	for _, k := range c.Lin.Coefs {
		g = exact.Gcd(g, rest(k.Num))
	}
	bound, r := rest(c.Lin.Const).QuoRem(g)
	holds := c.Rel == api.RelDivides
	if !r.IsZero() {
		return constant(!holds, api.SortInt)
	}
	reduced, _ := mod.QuoRem(g)
	if reduced.IsOne() {
		return constant(holds, api.SortInt)
	}
	n := api.Constraint{Rel: c.Rel, Mod: reduced.String(), Lin: api.Linear{Sort: api.SortInt, Const: bound.String()}}
	for _, k := range c.Lin.Coefs {
		if q, _ := rest(k.Num).QuoRem(g); !q.IsZero() {
			n.Lin.Coefs = append(n.Lin.Coefs, api.Coef{Name: k.Name, Num: q.String()})
		}
	}
	return n
}

// Negate returns constraints whose disjunction is true exactly if c is false.
func Negate(c api.Constraint) ([]api.Constraint, api.Errno) {
	if !ValidConstraint(c) {
		return nil, api.ErrInvalid
	}
	negative, same := scale(c.Lin, exact.Small(-1)), scale(c.Lin, exact.One())
	switch c.Rel {
	case api.RelLe:
		return []api.Constraint{{Rel: api.RelLt, Lin: negative}}, api.OK
	case api.RelLt:
		return []api.Constraint{{Rel: api.RelLe, Lin: negative}}, api.OK
	case api.RelEq:
		return []api.Constraint{{Rel: api.RelLt, Lin: same}, {Rel: api.RelLt, Lin: negative}}, api.OK
	case api.RelDivides:
		return []api.Constraint{{Rel: api.RelNotDivides, Lin: same, Mod: c.Mod}}, api.OK
	}
	return []api.Constraint{{Rel: api.RelDivides, Lin: same, Mod: c.Mod}}, api.OK
}

// Atom returns the constraint that a formula denotes.
func Atom(t api.Term) (api.Constraint, api.Errno) {
	if !term.Valid(t) {
		return api.Constraint{}, api.ErrInvalid
	}
	switch t[0].Op {
	case api.OpLe, api.OpLt, api.OpEq:
		return atom(t)
	case api.OpNot:
		return negatedAtom(t[1:])
	}
	return api.Constraint{}, api.ErrForm
}

// difference returns the constraint that a - b is in a relation to 0.
func difference(rel int, a, b api.Term) (api.Constraint, api.Errno) {
	x, e := of(a)
	y, e2 := of(b)
	if e != api.OK || e2 != api.OK {
		return api.Constraint{}, api.ErrForm
	}
	return api.Constraint{Rel: rel, Lin: combine(x, y, exact.Small(-1))}, api.OK
}

func atom(t api.Term) (api.Constraint, api.Errno) {
	kids := tree.Kids(t)
	a, b := kids[0], kids[1]
	switch {
	case t[0].Op == api.OpLe:
		return difference(api.RelLe, a, b)
	case t[0].Op == api.OpLt:
		return difference(api.RelLt, a, b)
	case isRemainder(a, b):
		c, e := difference(api.RelDivides, a[1:], b)
		if e == api.OK {
			c.Mod = a[0].Num
		}
		return c, e
	}
	return difference(api.RelEq, a, b)
}

func isRemainder(a, b api.Term) bool {
	return a[0].Op == api.OpMod && b[0].Op == api.OpNum && number.Sign(b[0].Num) >= 0 && number.Cmp(b[0].Num, a[0].Num) < 0
}

func negatedAtom(t api.Term) (api.Constraint, api.Errno) {
	if t[0].Op != api.OpLe && t[0].Op != api.OpLt && t[0].Op != api.OpEq {
		return api.Constraint{}, api.ErrForm
	}
	kids := tree.Kids(t)
	switch t[0].Op {
	case api.OpLe:
		return difference(api.RelLt, kids[1], kids[0])
	case api.OpLt:
		return difference(api.RelLe, kids[1], kids[0])
	}
	c, e := atom(t)
	if e != api.OK || c.Rel != api.RelDivides {
		return api.Constraint{}, api.ErrForm
	}
	c.Rel = api.RelNotDivides
	return c, api.OK
}

// Formula returns a formula that denotes a constraint.
func Formula(c api.Constraint) (api.Term, api.Errno) {
	if !ValidConstraint(c) {
		return nil, api.ErrInvalid
	}
	l, e := Term(c.Lin)
	if e != api.OK {
		return nil, e
	}
	zero := tree.Num("0", c.Lin.Sort)
	var t api.Term
	switch c.Rel {
	case api.RelLe:
		t = tree.Le(l, zero)
	case api.RelLt:
		t = tree.Lt(l, zero)
	case api.RelEq:
		t = tree.Eq(l, zero)
	default:
		t = tree.Eq(tree.Node(api.Node{Op: api.OpMod, Num: c.Mod}, l), zero)
		if c.Rel == api.RelNotDivides {
			t = tree.Not(t)
		}
	}
	if len(t) > api.MaxNodes {
		return nil, api.ErrLimit
	}
	return t, api.OK
}

// Holds reports whether a constraint is true.
func Holds(c api.Constraint, env []api.Binding) (bool, api.Errno) {
	if !ValidConstraint(c) || !validEnv(env) {
		return false, api.ErrInvalid
	}
	v, e := eval(c.Lin, env)
	if e != api.OK {
		return false, e
	}
	if c.Mod == "" {
		return compares(v, c.Rel), api.OK
	}
	return v.Div(exact.Must(c.Mod)).IsInt() == (c.Rel == api.RelDivides), api.OK
}

// Solve returns the expression to which an equation makes a variable equal.
func Solve(c api.Constraint, name string) (api.Linear, api.Errno) {
	if !ValidConstraint(c) || !term.IsName(name) {
		return api.Linear{}, api.ErrInvalid
	}
	k, rest := split(c.Lin, name)
	if c.Rel != api.RelEq || k.IsZero() {
		return api.Linear{}, api.ErrForm
	}
	l := scale(rest, exact.Small(-1).Div(k))
	if l.Sort == api.SortInt {
		whole := number.IsInt(l.Const)
		for _, c := range l.Coefs {
			whole = whole && number.IsInt(c.Num)
		}
		if !whole {
			return api.Linear{}, api.ErrForm
		}
	}
	return l, api.OK
}
