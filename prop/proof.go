package prop

import "slices"

// Checker propagates units over a list of clauses, any of which may be left out.
type Checker struct {
	clauses [][]int
	omitted []bool
	watches [][]int
	units   []int // the clauses with one literal or none
	value   []int8
	reason  []int
	trail   []int
}

// NewChecker returns a checker for n variables.
func NewChecker(n int, clauses [][]int) *Checker {
	c := &Checker{watches: make([][]int, 2*n+2), value: make([]int8, n+1), reason: make([]int, n+1)}
	for _, l := range clauses {
		c.Add(l)
	}
	return c
}

// Add appends a clause.
func (c *Checker) Add(clause []int) {
	lits, useful := simple(clause)
	i := len(c.clauses)
	c.clauses = append(c.clauses, lits)
	c.omitted = append(c.omitted, !useful)
	switch {
	case !useful:
	case len(lits) < 2:
		c.units = append(c.units, i)
	default:
		c.watches[code(lits[0])] = append(c.watches[code(lits[0])], i)
		c.watches[code(lits[1])] = append(c.watches[code(lits[1])], i)
	}
}

func (c *Checker) of(l int) int8 {
	if l < 0 {
		return -c.value[-l]
	}
	return c.value[l]
}

// set makes a literal true; it returns false if it is false.
func (c *Checker) set(l, reason int) bool {
	switch c.of(l) {
	case 1:
		return true
	case -1:
		return false
	}
	v := abs(l)
	c.value[v] = 1
	if l < 0 {
		c.value[v] = -1
	}
	c.reason[v] = reason
	c.trail = append(c.trail, l)
	return true
}

// reset forgets all values.
func (c *Checker) reset() {
	for _, l := range c.trail {
		c.value[abs(l)] = 0
	}
	c.trail = c.trail[:0]
}

// conflict is a literal that is false and has to be true, with the clause that demands it, or a clause that is false.
type conflict struct {
	clause int // -1 for an assumption
	lit    int // 0 for a false clause
}

// run propagates literals over the clauses before a limit; it reports a conflict.
func (c *Checker) run(lits []int, limit int) (conflict, bool) {
	c.reset()
	for _, l := range lits {
		if !c.set(l, -1) {
			return conflict{-1, l}, true
		}
	}
	for _, i := range c.units {
		if i >= limit || c.omitted[i] {
			continue
		}
		if len(c.clauses[i]) == 0 {
			return conflict{i, 0}, true
		}
		if l := c.clauses[i][0]; !c.set(l, i) {
			return conflict{i, l}, true
		}
	}
	for head := 0; head < len(c.trail); head++ {
		if i, found := c.visit(-c.trail[head], limit); found {
			return conflict{i, 0}, true
		}
	}
	return conflict{}, false
}

// visit visits the clauses that watch a literal that became false; it returns one that is false.
func (c *Checker) visit(l, limit int) (int, bool) {
	old := c.watches[code(l)]
	kept := old[:0]
	for n, i := range old {
		clause := c.clauses[i]
		if clause[0] == l {
			clause[0], clause[1] = clause[1], clause[0]
		}
		if i >= limit || c.omitted[i] || c.of(clause[0]) > 0 {
			kept = append(kept, i)
			continue
		}
		moved := false
		for k := 2; k < len(clause) && !moved; k++ {
			if c.of(clause[k]) >= 0 {
				clause[1], clause[k] = clause[k], clause[1]
				c.watches[code(clause[1])] = append(c.watches[code(clause[1])], i)
				moved = true
			}
		}
		if moved {
			continue
		}
		kept = append(kept, i)
		if !c.set(clause[0], i) {
			kept = append(kept, old[n+1:]...)
			c.watches[code(l)] = kept
			return i, true
		}
	}
	c.watches[code(l)] = kept
	return 0, false
}

// Propagate returns the literals that follow, and false if there is a conflict.
func (c *Checker) Propagate(lits []int) ([]int, bool) {
	if _, found := c.run(lits, len(c.clauses)); found {
		return nil, false
	}
	return slices.Clone(c.trail), true
}

func negatives(clause []int) []int {
	l := make([]int, len(clause))
	for i, k := range clause {
		l[i] = -k
	}
	return l
}

// Rup reports whether a clause follows by unit propagation from the clauses.
func (c *Checker) Rup(clause []int) bool {
	_, found := c.run(negatives(clause), len(c.clauses))
	return found
}

// antecedents reports whether a clause follows from the clauses before a limit, and from which of them.
func (c *Checker) antecedents(clause []int, limit int) ([]int, bool) {
	why, found := c.run(negatives(clause), limit)
	if !found {
		return nil, false
	}
	var used []int
	need := map[int]bool{}
	add := func(i int) {
		if i >= 0 {
			used = append(used, i)
			for _, l := range c.clauses[i] {
				need[abs(l)] = true
			}
		}
	}
	add(why.clause)
	if why.lit != 0 {
		need[abs(why.lit)] = true
	}
	for _, l := range slices.Backward(c.trail) {
		if need[abs(l)] {
			add(c.reason[abs(l)])
		}
	}
	return used, true
}

// Check reports whether the steps are a proof that clauses cannot be satisfied.
func Check(n int, clauses, steps [][]int) bool {
	if len(steps) == 0 || len(steps[len(steps)-1]) > 0 {
		return false
	}
	c := NewChecker(n, clauses)
	for _, step := range steps {
		if !c.Rup(step) {
			return false
		}
		c.Add(step)
	}
	return true
}

// trimmer omits steps of a proof.
type trimmer struct {
	*Checker
	steps   [][]int
	base    int     // the number of the given clauses
	uses    [][]int // the steps from which each step follows
	witness []int   // a step that does not follow without this one, or -1
}

// Trim returns steps of a proof that are still a proof, and none of which can be omitted.
func Trim(n int, clauses, steps [][]int) [][]int {
	end := slices.IndexFunc(steps, func(s []int) bool { return len(s) == 0 })
	steps = steps[:end+1]
	t := &trimmer{NewChecker(n, slices.Concat(clauses, steps)), steps, len(clauses), make([][]int, end+1), make([]int, end+1)}
	t.mark()
	for changed := true; changed; {
		changed = false
		for i := end - 1; i >= 0; i-- {
			if t.omitted[t.base+i] || t.witness[i] >= 0 && !t.omitted[t.base+t.witness[i]] {
				continue
			}
			if t.omit(i) {
				changed = true
			}
		}
	}
	var out [][]int
	for i, s := range steps {
		if !t.omitted[t.base+i] {
			out = append(out, slices.Clone(s))
		}
	}
	return out
}

// follow finds the steps from which step i follows.
func (t *trimmer) follow(i int) ([]int, bool) {
	all, is := t.antecedents(t.steps[i], t.base+i)
	var used []int
	for _, k := range all {
		if k >= t.base {
			used = append(used, k-t.base)
		}
	}
	return used, is
}

// mark omits all steps that the last one does not need.
func (t *trimmer) mark() {
	needed := make([]bool, len(t.steps))
	needed[len(t.steps)-1] = true
	for i := len(t.steps) - 1; i >= 0; i-- {
		t.witness[i] = -1
		if !needed[i] {
			t.omitted[t.base+i] = true
			continue
		}
		t.uses[i], _ = t.follow(i)
		for _, k := range t.uses[i] {
			needed[k] = true
		}
	}
}

// omit omits a step if all later ones still follow.
func (t *trimmer) omit(i int) bool {
	t.omitted[t.base+i] = true
	updates := map[int][]int{}
	for k := i + 1; k < len(t.steps); k++ {
		if t.omitted[t.base+k] || !slices.Contains(t.uses[k], i) {
			continue
		}
		used, is := t.follow(k)
		if !is {
			t.omitted[t.base+i] = false
			t.witness[i] = k
			return false
		}
		updates[k] = used
	}
	for k, used := range updates {
		t.uses[k] = used
	}
	return true
}
