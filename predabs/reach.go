package predabs

import (
	"slices"

	"chcsolver/api"
	"chcsolver/cubes"
	"chcsolver/tree"
)

// reached is a cube with the clause and the cubes that derive it.
type reached struct {
	cube   api.Cube
	clause int
	kids   []int
}

// explorer collects the cubes that can be reached.
type explorer struct {
	s      api.System
	bases  []api.Basis
	exact  bool
	budget int
	all    []reached
	done   map[[api.MaxBody + 1]int]bool // the clauses with body cubes whose images are known
}

// includes reports whether a cube includes another one.
func includes(a, b api.Cube) bool {
	if a.Pred != b.Pred {
		return false
	}
	for i, sign := range a.Signs {
		if sign != 0 && sign != b.Signs[i] {
			return false
		}
	}
	return true
}

// add adds a cube, unless it is known already or included in one that is.
func (x *explorer) add(c api.Cube, clause int, kids []int) bool {
	for _, r := range x.all {
		if x.exact && r.cube.Pred == c.Pred && slices.Equal(r.cube.Signs, c.Signs) || !x.exact && includes(r.cube, c) {
			return false
		}
	}
	x.all = append(x.all, reached{c, clause, slices.Clone(kids)})
	return true
}

// tuples calls f for all lists of known cubes for the atoms of a clause.
func (x *explorer) tuples(c api.Clause, most int, f func(kids []int) bool) bool {
	var choose func(kids []int) bool
	choose = func(kids []int) bool {
		if len(kids) == len(c.Body) {
			return f(kids)
		}
		for i, r := range x.all[:most] {
			if r.cube.Pred == c.Body[len(kids)].Pred && !choose(append(slices.Clip(kids), i)) {
				return false
			}
		}
		return true
	}
	return choose(nil)
}

// clause adds the image of a clause for all lists of known cubes; it returns false once a query is reached.
func (x *explorer) clause(i, most int) bool {
	return x.tuples(x.s.Clauses[i], most, func(kids []int) bool {
		key := [api.MaxBody + 1]int{i}
		var body []api.Cube
		for k, n := range kids {
			key[k+1] = n
			body = append(body, x.all[n].cube)
		}
		if x.done[key] {
			return true
		}
		x.done[key] = true
		for _, c := range find(x.s, x.bases, i, body, x.exact, x.budget).Cubes {
			if x.add(c, i, kids); c.Pred == "" {
				return false
			}
		}
		return true
	})
}

// run adds cubes until nothing changes; it returns false once a query is reached.
func (x *explorer) run() bool {
	for last := -1; last != len(x.all); {
		last = len(x.all)
		for i := range x.s.Clauses {
			if !x.clause(i, last) {
				return false
			}
		}
	}
	return true
}

// shape returns the tree of clauses that derives a cube, and false if it has too many nodes.
func (x *explorer) shape(i int) ([]api.ShapeNode, bool) {
	var out []api.ShapeNode
	var write func(i int) bool
	write = func(i int) bool {
		if len(out) == api.MaxTree {
			return false
		}
		out = append(out, api.ShapeNode{Clause: x.all[i].clause, Kids: len(x.all[i].kids)})
		for _, k := range x.all[i].kids {
			if !write(k) {
				return false
			}
		}
		return true
	}
	return out, write(i)
}

// Reach returns a closed set of cubes, or a possible shape whose root is a query.
func Reach(s api.System, bases []api.Basis, exact bool, budget int) (api.Reached, api.Errno) {
	if !validInput(s, bases, budget) {
		return api.Reached{}, api.ErrInvalid
	}
	x := &explorer{s: s, bases: bases, exact: exact, budget: budget, done: map[[api.MaxBody + 1]int]bool{}}
	closed := false
	if e, known := try(func() { closed = x.run() }); !known {
		return api.Reached{}, e
	}
	if !closed {
		shape, is := x.shape(len(x.all) - 1)
		if !is {
			return api.Reached{}, api.ErrLimit
		}
		return api.Reached{Answer: api.Unsat, Shape: shape}, api.OK
	}
	r := api.Reached{Answer: api.Sat}
	for _, c := range x.all {
		r.Cubes = append(r.Cubes, c.cube)
	}
	slices.SortFunc(r.Cubes, order(s))
	return r, api.OK
}

// cubesOfShape returns the cubes of the root of a shape.
func (x *explorer) cubesOfShape(shape []api.ShapeNode) []api.Cube {
	ends, _ := tree.Ends(len(shape), func(i int) int { return shape[i].Kids })
	sets := make([][]api.Cube, len(shape))
	for i := len(shape) - 1; i >= 0; i-- {
		kids := tree.Children(ends, i+1, ends[i])
		seen := map[string]bool{}
		var choose func(body []api.Cube)
		choose = func(body []api.Cube) {
			if len(body) < len(kids) {
				for _, c := range sets[kids[len(body)]] {
					choose(append(slices.Clip(body), c))
				}
				return
			}
			for _, c := range find(x.s, x.bases, shape[i].Clause, body, x.exact, x.budget).Cubes {
				if key := text(c.Signs); !seen[key] {
					seen[key] = true
					sets[i] = append(sets[i], c)
				}
			}
		}
		choose(nil)
	}
	return sets[0]
}

// text returns a text for signs.
func text(signs []int) string {
	b := make([]byte, len(signs))
	for i, s := range signs {
		b[i] = byte('b' + s)
	}
	return string(b)
}

// Possible decides whether a shape is possible.
func Possible(s api.System, bases []api.Basis, shape []api.ShapeNode, exact bool, budget int) (int, api.Errno) {
	if !validInput(s, bases, budget) || !cubes.IsShape(s, shape) {
		return 0, api.ErrInvalid
	}
	x := &explorer{s: s, bases: bases, exact: exact, budget: budget}
	var l []api.Cube
	if e, known := try(func() { l = x.cubesOfShape(shape) }); !known {
		return api.Unknown, e
	}
	if len(l) == 0 {
		return api.Unsat, api.OK
	}
	return api.Sat, api.OK
}
