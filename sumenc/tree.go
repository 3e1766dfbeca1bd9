package sumenc

import (
	"slices"
	"strconv"

	"chcsolver/api"
	"chcsolver/encode"
)

// history assembles the tree of a run.
type history struct {
	encode.Assembler
	graphs  []api.Graph
	heads   [][]bool
	clauses map[string]int
	waiting map[*encode.Frame]*encode.Frame // the frame for which each frame waits
	failed  *encode.Frame
	edge    int // the assertion that fails in it
}

// Tree returns the refutation for a run that fails.
func Tree(p api.Program, args, inputs []api.Value, steps int) (api.Tree, api.Errno) {
	_, origins, e := Encode(p)
	if e != api.OK {
		return nil, e
	}
	x, _ := newEncoder(p)
	f, edge, e := encode.Failing(p, x.graphs, args, inputs, steps)
	if e != api.OK {
		return nil, e
	}
	h := &history{graphs: x.graphs, heads: x.heads, clauses: encode.Index(origins), waiting: map[*encode.Frame]*encode.Frame{}, failed: f, edge: edge}
	first := f
	for ; first.Caller != nil; first = first.Caller {
		h.waiting[first.Caller] = first
	}
	if !h.Node(h.clauses[encode.Key(api.OriginMain, first.Proc, nil)], 1, first.Entry, h.outputs(first)) || !h.called(first) {
		return nil, api.ErrLimit
	}
	return h.Assembler.Tree, api.OK
}

// outputs returns the results of a frame and the number of its outcome.
func (h *history) outputs(f *encode.Frame) []api.Value {
	g := h.graphs[f.Proc]
	if f.Done {
		return append(slices.Clone(encode.Results(g, f)), api.Value{Sort: api.SortInt, Num: "0"})
	}
	num := h.graphs[h.failed.Proc].Edges[h.edge].Cmd.Num
	return append(encode.ZeroValues(results(g)), api.Value{Sort: api.SortInt, Num: strconv.Itoa(num + 1)})
}

// called appends the derivation of the summary of a frame.
func (h *history) called(f *encode.Frame) bool {
	return h.Node(h.clauses[encode.Key(api.OriginBody, f.Proc, nil)], 1, f.Entry, h.outputs(f)) && h.rest(f, 0)
}

// rest appends the derivation of the rest of a frame after some steps, at a head.
func (h *history) rest(f *encode.Frame, from int) bool {
	g := h.graphs[f.Proc]
	to := from
	ended := false
	for to < len(f.Steps) && !ended {
		end := g.Edges[f.Steps[to].Edge].To
		ended = end == 1 || h.heads[f.Proc][end]
		to++
	}
	steps := f.Steps[from:to]
	kind, last := api.OriginPath, -1
	before, news, callees := f.Now, []api.Value(nil), []*encode.Frame(nil)
	if len(steps) > 0 {
		before = steps[0].Before
	}
	var edges []int
	for _, s := range steps {
		edges = append(edges, s.Edge)
		news = append(news, s.Input...)
		if s.Callee != nil {
			news = append(news, encode.Results(h.graphs[s.Callee.Proc], s.Callee)...)
			callees = append(callees, s.Callee)
		}
	}
	next := h.waiting[f]
	switch {
	case ended && g.Edges[edges[len(edges)-1]].To != 1:
		last = to
	case ended:
	case next != nil:
		kind, edges = api.OriginCall, append(edges, next.Call)
		news = append(news, encode.ZeroValues(results(h.graphs[next.Proc]))...)
		callees = append(callees, next)
	default:
		kind, edges = api.OriginAssert, append(edges, h.edge)
	}
	kids := len(callees)
	if last >= 0 {
		kids++
	}
	if !h.Node(h.clauses[encode.Key(kind, f.Proc, edges)], kids, before, h.outputs(f), news) {
		return false
	}
	for _, c := range callees {
		if !h.called(c) {
			return false
		}
	}
	return last < 0 || h.rest(f, last)
}
