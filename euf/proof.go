package euf

import (
	"slices"

	"chcsolver/api"
	"chcsolver/tree"
)

// prover writes the lines of a proof.
type prover struct {
	*closure
	lines []api.Line
	known map[[2]int]int // the line that equates two terms
}

// prove returns a proof whose last line equates a and b, which are connected.
func (c *closure) prove(a, b api.Term) []api.Line {
	p := &prover{closure: c, known: map[[2]int]int{}}
	last := p.equal(c.number(a), c.number(b))
	// The last line may have been written for a part of another one before.
	if last != len(p.lines)-1 {
		l := p.lines[last]
		p.lines = append(p.lines, api.Line{A: tree.Clone(l.A), B: tree.Clone(l.B), Rule: l.Rule, From: l.From, Args: slices.Clone(l.Args)})
	}
	return p.lines
}

func (p *prover) line(a, b, rule, from int, args ...int) int {
	p.lines = append(p.lines, api.Line{A: tree.Clone(p.terms[a]), B: tree.Clone(p.terms[b]), Rule: rule, From: from, Args: args})
	return len(p.lines) - 1
}

// path returns the terms from a term to the root of its tree.
func (p *prover) path(a int) []int {
	l := []int{a}
	for p.forest[a].to >= 0 {
		a = p.forest[a].to
		l = append(l, a)
	}
	return l
}

// equal returns a line that equates two connected terms.
func (p *prover) equal(a, b int) int {
	if i, is := p.known[[2]int{a, b}]; is {
		return i
	}
	if a == b {
		i := p.line(a, b, api.RuleReflexive, 0)
		p.known[[2]int{a, b}] = i
		return i
	}
	up, down := p.path(a), p.path(b)
	for len(up) > 1 && len(down) > 1 && up[len(up)-2] == down[len(down)-2] {
		up, down = up[:len(up)-1], down[:len(down)-1]
	}
	way := slices.Clone(up)
	for _, t := range slices.Backward(down[:len(down)-1]) {
		way = append(way, t)
	}
	last := -1
	for k := 1; k < len(way); k++ {
		step := p.step(way[k-1], way[k])
		if last < 0 {
			last = step
		} else {
			last = p.line(a, way[k], api.RuleTransitive, 0, last, step)
		}
	}
	p.known[[2]int{a, b}] = last
	return last
}

// step returns a line that equates two terms that are connected directly in the forest.
func (p *prover) step(a, b int) int {
	if i, is := p.known[[2]int{a, b}]; is {
		return i
	}
	e := p.forest[a]
	if e.to != b {
		e = p.forest[b]
	}
	i := 0
	if e.from >= 0 {
		i = p.line(a, b, api.RuleGiven, e.from)
	} else {
		var args []int
		for k, x := range p.kids[a] {
			args = append(args, p.equal(x, p.kids[b][k]))
		}
		i = p.line(a, b, api.RuleCongruent, 0, args...)
	}
	p.known[[2]int{a, b}] = i
	return i
}

// Check reports whether lines are a proof from equations.
func Check(l []api.Equation, lines []api.Line) bool {
	if !valid(l) || len(lines) == 0 {
		return false
	}
	for i, line := range lines {
		if !validEquation(api.Equation{A: line.A, B: line.B}) || !conforms(l, lines[:i], line) {
			return false
		}
	}
	return true
}

// conforms reports whether a line conforms to its rule after the earlier lines.
func conforms(l []api.Equation, earlier []api.Line, line api.Line) bool {
	same := tree.Equal
	isEarlier := func(i int) bool { return i >= 0 && i < len(earlier) }
	switch line.Rule {
	case api.RuleGiven:
		if line.From < 0 || line.From >= len(l) || !l[line.From].Equal {
			return false
		}
		q := l[line.From]
		return same(q.A, line.A) && same(q.B, line.B) || same(q.A, line.B) && same(q.B, line.A)
	case api.RuleReflexive:
		return same(line.A, line.B)
	case api.RuleTransitive:
		if len(line.Args) != 2 || !isEarlier(line.Args[0]) || !isEarlier(line.Args[1]) {
			return false
		}
		x, y := earlier[line.Args[0]], earlier[line.Args[1]]
		return same(x.A, line.A) && same(x.B, y.A) && same(y.B, line.B)
	case api.RuleCongruent:
		a, b := tree.Kids(line.A), tree.Kids(line.B)
		if operation(line.A) != operation(line.B) || len(line.Args) != len(a) {
			return false
		}
		for k, i := range line.Args {
			if !isEarlier(i) || !same(earlier[i].A, a[k]) || !same(earlier[i].B, b[k]) {
				return false
			}
		}
		return true
	}
	return false
}
