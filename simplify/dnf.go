package simplify

import (
	"slices"

	"chcsolver/api"
	"chcsolver/term"
	"chcsolver/tree"
)

// cube is a conjunction of literals, by their numbers.
type cube struct {
	lits []int
	has  map[int]bool
}

type dnf struct {
	limit    int
	literals []api.Term
	opposite []int // the number of the negation of each literal, or -1
	numbers  map[string]int
}

// DNF returns the cubes of a formula.
func DNF(t api.Term, limit int) ([]api.Term, api.Errno) {
	if !term.Valid(t) || limit < 1 || limit > api.MaxCubes {
		return nil, api.ErrInvalid
	}
	n, e := NNF(t)
	if e != api.OK {
		return nil, e
	}
	d := &dnf{limit: limit, numbers: map[string]int{}}
	cubes, is := d.cubes(n)
	if !is {
		return nil, api.ErrLimit
	}
	l := make([]api.Term, len(cubes))
	for i, c := range cubes {
		if l[i] = d.term(c); !tree.Fits(l[i]) {
			return nil, api.ErrLimit
		}
	}
	return l, api.OK
}

func (d *dnf) term(c cube) api.Term {
	switch len(c.lits) {
	case 0:
		return tree.True()
	case 1:
		return tree.Clone(d.literals[c.lits[0]])
	}
	var l []api.Term
	for _, i := range c.lits {
		l = append(l, d.literals[i])
	}
	return tree.And(l...)
}

// literal returns the number of a literal.
func (d *dnf) literal(t api.Term) int {
	key := tree.Key(t)
	if i, seen := d.numbers[key]; seen {
		return i
	}
	i := len(d.literals)
	d.numbers[key] = i
	d.literals = append(d.literals, t)
	d.opposite = append(d.opposite, -1)
	if k, seen := d.numbers[tree.Key(normal(t, false))]; seen {
		d.opposite[i], d.opposite[k] = k, i
	}
	return i
}

// cubes returns the cubes of a formula in negation normal form, and false if there are too many.
func (d *dnf) cubes(t api.Term) ([]cube, bool) {
	switch t[0].Op {
	case api.OpTrue:
		return []cube{{has: map[int]bool{}}}, true
	case api.OpFalse:
		return nil, true
	case api.OpOr:
		var l []cube
		for _, k := range tree.Kids(t) {
			m, is := d.cubes(k)
			l = append(l, m...)
			if !is || len(l) > d.limit {
				return nil, false
			}
		}
		return l, true
	case api.OpAnd:
		l := []cube{{has: map[int]bool{}}}
		for _, k := range tree.Kids(t) {
			m, is := d.cubes(k)
			if !is {
				return nil, false
			}
			if l, is = d.product(l, m); !is {
				return nil, false
			}
		}
		return l, true
	}
	i := d.literal(t)
	return []cube{{[]int{i}, map[int]bool{i: true}}}, true
}

// product extends each cube of l by each cube of m.
func (d *dnf) product(l, m []cube) ([]cube, bool) {
	var out []cube
	for _, a := range l {
		for k, b := range m {
			c := a
			if k < len(m)-1 {
				c = cube{slices.Clone(a.lits), make(map[int]bool, len(a.has))}
				for i := range a.has {
					c.has[i] = true
				}
			}
			if d.extend(&c, b) {
				out = append(out, c)
			}
			if len(out) > d.limit {
				return nil, false
			}
		}
	}
	return out, true
}

// extend adds the literals of b; it returns false if the cube is contradictory then.
func (d *dnf) extend(c *cube, b cube) bool {
	for _, i := range b.lits {
		if c.has[i] {
			continue
		}
		if o := d.opposite[i]; o >= 0 && c.has[o] {
			return false
		}
		c.has[i] = true
		c.lits = append(c.lits, i)
	}
	return true
}
