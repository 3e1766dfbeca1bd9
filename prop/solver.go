// Package prop is the propositional search with proofs that the layers share. It has no limits.
package prop

import "slices"

// Solver decides clauses under assumptions. Clauses may be added between two calls of Solve.
type Solver struct {
	clauses [][]int
	watches [][]int // the clauses that watch each literal
	value   []int8  // of each variable: 0, 1 or -1
	level   []int
	reason  []int // the clause that forced a variable, or -1
	phase   []bool
	trail   []int
	limits  []int // the length of the trail at each decision
	head    int
	broken  bool // the clauses alone are contradictory
	score   []int64
	bump    int64
	queue   heap
	learned [][]int
}

// New returns a solver without variables and clauses.
func New() *Solver {
	s := &Solver{bump: 1}
	s.queue.less = func(a, b int) bool { return s.score[a] > s.score[b] || s.score[a] == s.score[b] && a < b }
	s.Grow(0)
	return s
}

// Grow makes the variables 1 to n known.
func (s *Solver) Grow(n int) {
	for v := len(s.value); v <= n; v++ {
		s.value, s.level, s.reason = append(s.value, 0), append(s.level, 0), append(s.reason, -1)
		s.phase, s.score = append(s.phase, false), append(s.score, 0)
		s.watches = append(s.watches, nil, nil)
		s.queue.place = append(s.queue.place, -1)
		if v > 0 {
			s.queue.push(v)
		}
	}
}

// Vars returns the number of variables.
func (s *Solver) Vars() int { return len(s.value) - 1 }

func code(l int) int {
	if l < 0 {
		return -2*l + 1
	}
	return 2 * l
}

func abs(l int) int { return max(l, -l) }

// of returns 1 for a true, -1 for a false literal and 0 otherwise.
func (s *Solver) of(l int) int8 {
	if l < 0 {
		return -s.value[-l]
	}
	return s.value[l]
}

// Value returns the value of a variable after an answer of true.
func (s *Solver) Value(v int) bool { return s.phase[v] }

// Learned returns the clauses that were learned, in order.
func (s *Solver) Learned() [][]int { return s.learned }

// simple returns the literals of a clause without repetitions, and false if it is true in every case.
func simple(clause []int) ([]int, bool) {
	out := slices.Clone(clause)
	slices.SortFunc(out, func(a, b int) int { return code(a) - code(b) })
	out = slices.Compact(out)
	for i := 1; i < len(out); i++ {
		if out[i] == -out[i-1] {
			return nil, false
		}
	}
	return out, true
}

// Add adds a clause.
func (s *Solver) Add(clause []int) {
	s.backtrack(0)
	lits, useful := simple(clause)
	if !useful || s.broken {
		return
	}
	for _, l := range lits {
		s.Grow(abs(l))
	}
	// Literals that are not false yet are watched.
	slices.SortStableFunc(lits, func(a, b int) int { return int(s.of(b)) - int(s.of(a)) })
	switch {
	case len(lits) == 0 || s.of(lits[0]) < 0:
		s.broken = true
	case len(lits) == 1 || s.of(lits[1]) < 0 && s.of(lits[0]) == 0:
		s.assign(lits[0], s.store(lits))
		s.broken = s.propagate() >= 0
	default:
		s.store(lits)
	}
}

// store keeps a clause, whose first two literals are watched, and returns its index.
func (s *Solver) store(lits []int) int {
	i := len(s.clauses)
	s.clauses = append(s.clauses, lits)
	if len(lits) > 1 {
		s.watches[code(lits[0])] = append(s.watches[code(lits[0])], i)
		s.watches[code(lits[1])] = append(s.watches[code(lits[1])], i)
	}
	return i
}

func (s *Solver) assign(l, reason int) {
	v := abs(l)
	if s.of(l) != 0 {
		return
	}
	s.value[v] = 1
	if l < 0 {
		s.value[v] = -1
	}
	s.phase[v] = l > 0
	s.level[v], s.reason[v] = len(s.limits), reason
	s.trail = append(s.trail, l)
}

func (s *Solver) backtrack(level int) {
	if level >= len(s.limits) {
		return
	}
	for _, l := range s.trail[s.limits[level]:] {
		s.value[abs(l)] = 0
		s.reason[abs(l)] = -1
		s.queue.push(abs(l))
	}
	s.trail = s.trail[:s.limits[level]]
	s.limits = s.limits[:level]
	s.head = len(s.trail)
}

// propagate returns a clause that is false, or -1.
func (s *Solver) propagate() int {
	for s.head < len(s.trail) {
		l := s.trail[s.head]
		s.head++
		old := s.watches[code(-l)]
		kept := old[:0]
		for n, i := range old {
			c := s.clauses[i]
			if c[0] == -l {
				c[0], c[1] = c[1], c[0]
			}
			if s.of(c[0]) > 0 || !s.rewatch(i, c) {
				kept = append(kept, i)
				if s.of(c[0]) < 0 {
					kept = append(kept, old[n+1:]...)
					s.watches[code(-l)] = kept
					s.head = len(s.trail)
					return i
				}
				s.assign(c[0], i)
			}
		}
		s.watches[code(-l)] = kept
	}
	return -1
}

// rewatch lets a clause watch another literal in place of its second one; it returns false if there is none.
func (s *Solver) rewatch(i int, c []int) bool {
	for k := 2; k < len(c); k++ {
		if s.of(c[k]) >= 0 {
			c[1], c[k] = c[k], c[1]
			s.watches[code(c[1])] = append(s.watches[code(c[1])], i)
			return true
		}
	}
	return false
}

// raise increases the score of a variable.
func (s *Solver) raise(v int) {
	if s.score[v] += s.bump; s.score[v] > 1<<60 {
		for k := range s.score {
			s.score[k] >>= 40
		}
		s.bump = s.bump>>40 + 1
	}
	s.queue.up(v)
}

// analyze returns the clause that a conflict teaches, its first literal being the one that it forces, and the level to return to.
func (s *Solver) analyze(conflict int) ([]int, int) {
	seen := map[int]bool{}
	clause := []int{0}
	open, at := 0, len(s.trail)
	lits := s.clauses[conflict]
	for {
		for _, l := range lits {
			v := abs(l)
			if seen[v] || s.level[v] == 0 || s.of(l) > 0 {
				continue
			}
			seen[v] = true
			s.raise(v)
			if s.level[v] == len(s.limits) {
				open++
			} else {
				clause = append(clause, l)
			}
		}
		for at--; !seen[abs(s.trail[at])]; at-- {
		}
		l := s.trail[at]
		if open--; open == 0 {
			clause[0] = -l
			break
		}
		lits = s.clauses[s.reason[abs(l)]]
	}
	s.bump += s.bump/16 + 1
	back := 0
	for i := 1; i < len(clause); i++ {
		if level := s.level[abs(clause[i])]; level > back {
			back = level
			clause[1], clause[i] = clause[i], clause[1]
		}
	}
	return clause, back
}

// core returns the assumptions from which the falsity of a literal was derived, with the literal itself.
func (s *Solver) core(l int, under []int) []int {
	need := map[int]bool{abs(l): true}
	used := map[int]bool{l: true}
	for at := len(s.trail) - 1; at >= 0; at-- {
		t := s.trail[at]
		if !need[abs(t)] || s.level[abs(t)] == 0 {
			continue
		}
		if r := s.reason[abs(t)]; r >= 0 {
			for _, k := range s.clauses[r] {
				need[abs(k)] = true
			}
		} else {
			used[t] = true
		}
	}
	var out []int
	for _, u := range under {
		if used[u] && !slices.Contains(out, u) {
			out = append(out, u)
		}
	}
	return out
}

// Solve reports whether there is an assignment under the assumptions; if not, it returns those that suffice.
func (s *Solver) Solve(under []int) (bool, []int) {
	for _, l := range under {
		s.Grow(abs(l))
	}
	s.backtrack(0)
	conflicts, budget := 0, 100
search:
	for {
		if s.broken {
			return false, nil
		}
		if conflict := s.propagate(); conflict >= 0 {
			if len(s.limits) == 0 {
				s.broken = true
				continue search
			}
			conflicts++
			s.learn(conflict)
			continue search
		}
		if conflicts > budget {
			conflicts, budget = 0, budget+budget/2
			s.backtrack(0)
			continue search
		}
		for len(s.limits) < len(under) {
			l := under[len(s.limits)]
			if s.of(l) < 0 {
				return false, s.core(l, under)
			}
			s.limits = append(s.limits, len(s.trail))
			if s.of(l) == 0 {
				s.assign(l, -1)
				continue search
			}
		}
		v := s.queue.next(func(v int) bool { return s.value[v] == 0 })
		if v == 0 {
			break search
		}
		s.limits = append(s.limits, len(s.trail))
		l := v
		if !s.phase[v] {
			l = -v
		}
		s.assign(l, -1)
	}
	s.backtrack(0)
	return true, nil
}

// learn adds the clause that a conflict teaches.
func (s *Solver) learn(conflict int) {
	clause, back := s.analyze(conflict)
	s.learned = append(s.learned, slices.Clone(clause))
	s.backtrack(back)
	s.assign(clause[0], s.store(clause))
}
