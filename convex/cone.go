package convex

import (
	"slices"

	"chcsolver/api"
	"chcsolver/exact"
	"chcsolver/lp"
)

// Vector is a direction. A point x has the vector (1, x), a direction of a polyhedron (0, x).
type Vector []exact.Rat

// ray is a generator of a cone with the constraints that it satisfies as equations.
type ray struct {
	v    Vector
	id   int
	zero []bool
}

// Cone is the set of all sums of multiples of lines and of positive multiples of rays.
type Cone struct {
	lines []Vector
	rays  []ray
	count int // the constraints so far
}

// whole returns the cone of all vectors.
func whole(n int) *Cone {
	c := &Cone{}
	for i := range n {
		v := make(Vector, n)
		v[i] = exact.One()
		c.lines = append(c.lines, v)
	}
	return c
}

// combine returns a * v + b * w without a common factor.
func combine(a exact.Rat, v Vector, b exact.Rat, w Vector) Vector {
	out := make(Vector, len(v))
	for i := range v {
		out[i] = a.Mul(v[i]).Add(b.Mul(w[i]))
	}
	if first(out) >= 0 {
		k := lp.Primitive(out)
		for i := range out {
			out[i] = out[i].Mul(k)
		}
	}
	return out
}

// restrict adds the constraint that the product with a Vector is not negative or, for an equation, 0.
func (c *Cone) restrict(a Vector, equation bool) {
	i := slices.IndexFunc(c.lines, func(l Vector) bool { return !lp.Dot(a, l).IsZero() })
	if i >= 0 {
		c.restrictLine(a, i, equation)
	} else {
		c.restrictRays(a, equation)
	}
	c.count++
}

// restrictLine adds a constraint that a line does not satisfy: the line becomes a ray or vanishes.
func (c *Cone) restrictLine(a Vector, i int, equation bool) {
	l := c.lines[i]
	if lp.Dot(a, l).Sign() < 0 {
		l = combine(exact.Small(-1), l, exact.Rat{}, l)
	}
	product := lp.Dot(a, l)
	flatten := func(v Vector) Vector { return combine(product, v, lp.Dot(a, v).Neg(), l) }
	c.lines = slices.Delete(c.lines, i, i+1)
	for k, m := range c.lines {
		c.lines[k] = flatten(m)
	}
	for k, r := range c.rays {
		c.rays[k] = ray{v: flatten(r.v), zero: append(slices.Clone(r.zero), true)}
	}
	if !equation {
		zero := append(slices.Repeat([]bool{true}, c.count), false)
		c.rays = append(c.rays, ray{v: l, zero: zero})
	}
}

// restrictRays adds a constraint that all lines satisfy as an equation.
func (c *Cone) restrictRays(a Vector, equation bool) {
	for i := range c.rays {
		c.rays[i].id = i
	}
	var kept, positive, negative []ray
	for _, r := range c.rays {
		switch lp.Dot(a, r.v).Sign() {
		case 0:
			kept = append(kept, ray{v: r.v, zero: append(slices.Clone(r.zero), true)})
		case 1:
			positive = append(positive, r)
		default:
			negative = append(negative, r)
		}
	}
	for _, p := range positive {
		for _, q := range negative {
			if !c.adjacent(p, q) {
				continue
			}
			v := combine(lp.Dot(a, q.v).Neg(), p.v, lp.Dot(a, p.v), q.v)
			zero := make([]bool, c.count+1)
			for k := range c.count {
				zero[k] = p.zero[k] && q.zero[k]
			}
			zero[c.count] = true
			kept = append(kept, ray{v: v, zero: zero})
		}
	}
	if !equation {
		for _, p := range positive {
			kept = append(kept, ray{v: p.v, zero: append(slices.Clone(p.zero), false)})
		}
	}
	c.rays = kept
}

// adjacent reports whether no other ray satisfies all constraints as equations that two rays both satisfy so.
func (c *Cone) adjacent(p, q ray) bool {
	for _, r := range c.rays {
		if r.id == p.id || r.id == q.id {
			continue
		}
		covers := true
		for k := range c.count {
			if p.zero[k] && q.zero[k] && !r.zero[k] {
				covers = false
				break
			}
		}
		if covers {
			return false
		}
	}
	return true
}

// Generators returns the cone of the vectors of the points and directions of a polyhedron that is not empty.
func Generators(p api.Poly) *Cone {
	c := whole(p.N + 1)
	positive := make(Vector, p.N+1)
	positive[0] = exact.One()
	c.restrict(positive, false)
	for _, r := range lp.ParseRows(p.Rows) {
		a := Vector{r.K}
		for _, x := range r.C {
			a = append(a, x.Neg())
		}
		c.restrict(a, r.Rel == api.RowEq)
	}
	return c
}

// Hull returns the smallest polyhedron whose vectors contain those of cones.
func Hull(n int, cones ...*Cone) api.Poly {
	dual := whole(n + 1)
	for _, c := range cones {
		for _, l := range c.lines {
			dual.restrict(l, true)
		}
		for _, r := range c.rays {
			dual.restrict(r.v, false)
		}
	}
	var rows []lp.Row
	add := func(v Vector, rel int) {
		r := lp.Row{Rel: rel, K: v[0]}
		for _, x := range v[1:] {
			r.C = append(r.C, x.Neg())
		}
		rows = append(rows, r)
	}
	for _, l := range dual.lines {
		add(l, api.RowEq)
	}
	for _, r := range dual.rays {
		add(r.v, api.RowLe)
	}
	return Canonical(n, rows)
}

// Mapped returns the cone of the images of all vectors.
func (c *Cone) Mapped(f func(v Vector) Vector) *Cone {
	out := &Cone{}
	for _, l := range c.lines {
		out.lines = append(out.lines, f(l))
	}
	for _, r := range c.rays {
		out.rays = append(out.rays, ray{v: f(r.v)})
	}
	return out
}

// Spanned returns the cone of all sums of positive multiples of vectors.
func Spanned(l []Vector) *Cone {
	c := &Cone{}
	for _, v := range l {
		c.rays = append(c.rays, ray{v: v})
	}
	return c
}
