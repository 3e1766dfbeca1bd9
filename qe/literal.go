// Package qe holds what the eliminations of variables have in common.
package qe

import (
	"chcsolver/api"
	"chcsolver/exact"
	"chcsolver/linear"
	"chcsolver/tree"
)

// RelNe is a further relation of literals: Lin is not 0.
const RelNe = 6

// Literal compares a linear expression with 0 or states divisibility.
type Literal struct {
	Rel int
	Lin api.Linear
	Mod string
}

// FromTerm returns the literal that a term is, and false if it is none.
func FromTerm(t api.Term) (Literal, bool) {
	atom, is := t, true
	if t[0].Op == api.OpNot {
		atom, is = t[1:], false
	}
	if atom[0].Op != api.OpLe && atom[0].Op != api.OpLt && atom[0].Op != api.OpEq {
		return Literal{}, false
	}
	if atom[0].Op == api.OpEq && atom[1].Op == api.OpMod {
		return remainder(atom, is)
	}
	if c, e := linear.Atom(t); e == api.OK {
		return Literal{Rel: c.Rel, Lin: c.Lin, Mod: c.Mod}, true
	}
	c, e := linear.Atom(atom)
	if e != api.OK || c.Rel != api.RelEq {
		return Literal{}, false
	}
	return Literal{Rel: RelNe, Lin: c.Lin}, true
}

// remainder returns the literal of an equation of an OpMod and a number.
func remainder(atom api.Term, is bool) (Literal, bool) {
	kids := tree.Kids(atom)
	l, e := linear.Of(kids[0][1:])
	if e != api.OK || kids[1][0].Op != api.OpNum {
		return Literal{}, false
	}
	r, m := exact.Must(kids[1][0].Num), exact.Must(kids[0][0].Num)
	if r.Sign() < 0 || r.Cmp(m) >= 0 {
		return Constant(!is, api.SortInt), true
	}
	k, _ := linear.Add(l, api.Linear{Sort: api.SortInt, Const: r.Neg().String()})
	if is {
		return Literal{Rel: api.RelDivides, Lin: k, Mod: m.String()}, true
	}
	return Literal{Rel: api.RelNotDivides, Lin: k, Mod: m.String()}, true
}

// Constant returns a literal that is true or false.
func Constant(is bool, sort int) Literal {
	if is {
		return Literal{Rel: api.RelLe, Lin: api.Linear{Sort: sort, Const: "0"}}
	}
	return Literal{Rel: api.RelLt, Lin: api.Linear{Sort: sort, Const: "0"}}
}

// Term returns the formula of a literal.
func (l Literal) Term() api.Term {
	c := api.Constraint{Rel: l.Rel, Lin: l.Lin, Mod: l.Mod}
	if l.Rel == RelNe {
		c.Rel = api.RelEq
	}
	c, _ = linear.Normal(c)
	if len(c.Lin.Coefs) == 0 {
		return tree.Bool((c.Rel == api.RelLe) != (l.Rel == RelNe))
	}
	t, e := linear.Formula(c)
	if e != api.OK {
		panic(tooLarge{})
	}
	if l.Rel == RelNe {
		return tree.Not(t)
	}
	return t
}

// Coef returns the coefficient of a variable.
func Coef(l api.Linear, name string) exact.Rat {
	for _, c := range l.Coefs {
		if c.Name == name {
			return exact.Must(c.Num)
		}
	}
	return exact.Rat{}
}

// Without returns an expression without a variable.
func Without(l api.Linear, name string) api.Linear {
	out := api.Linear{Sort: l.Sort, Const: l.Const}
	for _, c := range l.Coefs {
		if c.Name != name {
			out.Coefs = append(out.Coefs, c)
		}
	}
	return out
}

// Scale returns k * l.
func Scale(l api.Linear, k exact.Rat) api.Linear {
	out, _ := linear.Scale(l, k.String())
	return out
}

// Plus returns the sum of expressions of the same sort.
func Plus(a, b api.Linear) api.Linear {
	out, _ := linear.Add(a, b)
	return out
}

// Minus returns the difference.
func Minus(a, b api.Linear) api.Linear { return Plus(a, Scale(b, exact.Small(-1))) }

// Number returns the constant expression of a number.
func Number(k exact.Rat, sort int) api.Linear { return api.Linear{Sort: sort, Const: k.String()} }

// Value returns the value of an expression; variables without a value count as 0.
func Value(l api.Linear, env map[string]exact.Rat) exact.Rat {
	sum := exact.Must(l.Const)
	for _, c := range l.Coefs {
		sum = sum.Add(exact.Must(c.Num).Mul(env[c.Name]))
	}
	return sum
}

// Numbers returns the numeric values of an environment; the first one with a name counts.
func Numbers(env []api.Binding) map[string]exact.Rat {
	m := map[string]exact.Rat{}
	for _, b := range env {
		if _, seen := m[b.Name]; !seen && (b.Value.Sort == api.SortInt || b.Value.Sort == api.SortReal) {
			m[b.Name] = exact.Must(b.Value.Num)
		}
	}
	return m
}

// Lcm returns the least common multiple of positive integers.
func Lcm(l ...exact.Int) exact.Int {
	out := exact.FromInt64(1)
	for _, x := range l {
		q, _ := x.QuoRem(exact.Gcd(out, x))
		out = out.Mul(q)
	}
	return out
}
