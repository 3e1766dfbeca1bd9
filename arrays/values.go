package arrays

import (
	"slices"
	"strings"

	"chcsolver/api"
	"chcsolver/number"
	"chcsolver/tree"
	"chcsolver/value"
)

func sorted(l []api.Binding) []api.Binding {
	slices.SortFunc(l, func(a, b api.Binding) int { return strings.Compare(a.Name, b.Name) })
	return l
}

// variables returns the variables of the formula in ascending order of their names.
func (r *reduction) variables() []api.Var {
	l := tree.Vars(r.f)
	slices.SortFunc(l, func(a, b api.Var) int { return strings.Compare(a.Name, b.Name) })
	return l
}

// Lower returns values for the variables that are no arrays and for all names.
func Lower(f api.Term, env []api.Binding) ([]api.Binding, api.Errno) {
	r, e := reduce(f)
	if e != api.OK {
		return nil, e
	}
	if _, e := value.Eval(f, env, nil); e != api.OK {
		return nil, e
	}
	eval := func(t api.Term) api.Value {
		v, _ := value.Eval(t, env, nil)
		return v
	}
	var out []api.Binding
	bind := func(name, num string) {
		out = append(out, api.Binding{Name: name, Value: api.Value{Sort: api.SortInt, Num: num}})
	}
	for _, v := range r.variables() {
		if v.Sort != api.SortArray {
			out = append(out, api.Binding{Name: v.Name, Value: eval(tree.Of(v))})
		}
	}
	var arrays []api.Value
	for k, t := range r.arrays {
		v := eval(t)
		arrays = append(arrays, v)
		bind(r.identity[k], number.FromInt(slices.IndexFunc(arrays, func(w api.Value) bool { return value.Equal(v, w) })))
		bind(r.defaults[k], v.Num)
	}
	var indexes []string
	for _, t := range r.indexes[:r.terms] {
		indexes = append(indexes, eval(t).Num)
	}
	for p, ab := range r.pairs {
		w := difference(arrays[ab[0]], arrays[ab[1]])
		bind(r.indexes[r.terms+p][0].Name, w)
		indexes = append(indexes, w)
	}
	for k, v := range arrays {
		for j, i := range indexes {
			bind(r.reads[k][j], value.At(v, i))
		}
	}
	return sorted(out), api.OK
}

// difference returns the first one of 0, 1, -1, 2, -2 and so on at which two arrays differ, or 0.
func difference(a, b api.Value) string {
	differ := func(i string) bool { return value.At(a, i) != value.At(b, i) }
	if a.Num != b.Num {
		for k := 0; ; k++ {
			for _, i := range []string{number.FromInt(k), number.FromInt(-k)} {
				if differ(i) {
					return i
				}
			}
		}
	}
	// With the same default, they can differ at their keys only.
	best := ""
	for _, i := range slices.Concat(a.Keys, b.Keys) {
		if !differ(i) {
			continue
		}
		c := number.Cmp(number.Abs(i), number.Abs(best))
		if best == "" || c < 0 || c == 0 && number.Sign(i) > 0 {
			best = i
		}
	}
	if best == "" {
		return "0"
	}
	return best
}

// Lift returns values for all variables of the formula.
func Lift(f api.Term, env []api.Binding) ([]api.Binding, api.Errno) {
	r, e := reduce(f)
	if e != api.OK {
		return nil, e
	}
	var out []api.Binding
	for _, v := range r.variables() {
		if v.Sort == api.SortArray {
			continue
		}
		x, e := value.Eval(tree.Of(v), env, nil)
		if e != api.OK {
			return nil, e
		}
		out = append(out, api.Binding{Name: v.Name, Value: x})
	}
	num := map[string]string{}
	for _, n := range r.names {
		x, e := value.Eval(integer(n.Name), env, nil)
		if e != api.OK {
			return nil, e
		}
		num[n.Name] = x.Num
	}
	for k, t := range r.arrays {
		if t[0].Op == api.OpVar {
			out = append(out, api.Binding{Name: t[0].Name, Value: r.lifted(k, num, env)})
		}
	}
	return sorted(out), api.OK
}

// lifted returns the array with the values of the reads of array k.
func (r *reduction) lifted(k int, num map[string]string, env []api.Binding) api.Value {
	v := api.Value{Sort: api.SortArray, Num: num[r.defaults[k]]}
	seen := map[string]bool{}
	for j := range r.indexes {
		i, _ := value.Eval(r.index(j), env, nil)
		if !seen[i.Num] {
			seen[i.Num] = true
			v, _ = value.Store(v, i.Num, num[r.reads[k][j]])
		}
	}
	return v
}
