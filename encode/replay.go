package encode

import (
	"slices"

	"chcsolver/api"
	"chcsolver/machine"
	"chcsolver/value"
)

// Step is an edge that a frame passed.
type Step struct {
	Edge   int
	Before []api.Value // the values of the variables before it
	Input  []api.Value // the input value that was assigned, if any
	Callee *Frame      // the frame of the call that returned, if it is a call
}

// Frame is the history of an activation of a procedure.
type Frame struct {
	Proc   int
	Caller *Frame // nil for the first frame
	Call   int    // the edge of the caller by which it was created
	Entry  []api.Value
	Steps  []Step
	Now    []api.Value
	At     int
	Done   bool // it has returned
}

type replay struct {
	graphs []api.Graph
	inputs []api.Value
	used   int
	cur    *Frame
}

// Failing runs a machine and returns the frame in which an assertion failed and the edge of the assertion.
func Failing(p api.Program, graphs []api.Graph, args, inputs []api.Value, steps int) (*Frame, int, api.Errno) {
	m, e := machine.New(p, args, inputs)
	if e != api.OK {
		return nil, 0, e
	}
	if m.Run(steps) != api.StatusFailed {
		return nil, 0, api.ErrForm
	}
	r := &replay{graphs: graphs, inputs: inputs}
	main := slices.IndexFunc(graphs, func(g api.Graph) bool { return g.Proc == "main" })
	r.enter(main, slices.Clone(args), 0)
	outs := outEdges(graphs)
	for _, number := range m.Trace() {
		r.arrive(outs)
		r.pass(number % 10000)
	}
	r.arrive(outs)
	failed := m.State().Failed
	for _, i := range outs[r.cur.Proc][r.cur.At] {
		if c := graphs[r.cur.Proc].Edges[i].Cmd; c.Kind == api.CmdAssert && c.Num == failed {
			return r.cur, i, api.OK
		}
	}
	return nil, 0, api.ErrForm
}

func outEdges(graphs []api.Graph) [][][]int {
	l := make([][][]int, len(graphs))
	for k, g := range graphs {
		l[k] = make([][]int, g.Locations)
		for i, e := range g.Edges {
			l[k][e.From] = append(l[k][e.From], i)
		}
	}
	return l
}

func (r *replay) enter(proc int, args []api.Value, call int) {
	g := r.graphs[proc]
	r.cur = &Frame{Proc: proc, Caller: r.cur, Call: call, Entry: args, Now: slices.Concat(args, ZeroValues(g.Vars[g.Params:]))}
}

// arrive creates the frames of calls and leaves the frames that return, up to a place where an edge is passed.
// A location with an edge for a call has no other edge.
func (r *replay) arrive(outs [][][]int) {
	for {
		g := r.graphs[r.cur.Proc]
		if r.cur.At == 1 {
			return
		}
		out := outs[r.cur.Proc][r.cur.At]
		if len(out) == 0 || g.Edges[out[0]].Cmd.Kind != api.CmdCall {
			return
		}
		c := g.Edges[out[0]].Cmd
		var args []api.Value
		for _, t := range c.Terms {
			args = append(args, r.eval(t))
		}
		callee := slices.IndexFunc(r.graphs, func(g api.Graph) bool { return g.Proc == c.Names[0] })
		r.enter(callee, args, out[0])
	}
}

func (r *replay) eval(t api.Term) api.Value {
	var env []api.Binding
	for i, v := range r.graphs[r.cur.Proc].Vars {
		env = append(env, api.Binding{Name: v.Name, Value: r.cur.Now[i]})
	}
	v, _ := value.Eval(t, env, nil)
	return v
}

// assign changes a variable of the current frame; the values before remain as they are.
func (f *Frame) assign(g api.Graph, name string, v api.Value) {
	f.Now = slices.Clone(f.Now)
	for i, x := range g.Vars {
		if x.Name == name {
			f.Now[i] = v
		}
	}
}

// pass passes an edge; if the current frame is at its exit, it is the edge of the call that returns.
func (r *replay) pass(i int) {
	var callee *Frame
	if r.cur.At == 1 {
		callee = r.cur
		callee.Done = true
		r.cur = callee.Caller
	}
	f := r.cur
	g := r.graphs[f.Proc]
	c := g.Edges[i].Cmd
	s := Step{Edge: i, Before: f.Now, Callee: callee}
	switch c.Kind {
	case api.CmdAssign:
		f.assign(g, c.Names[0], r.eval(c.Terms[0]))
	case api.CmdHavoc:
		v := r.input(g, c.Names[0])
		s.Input = []api.Value{v}
		f.assign(g, c.Names[0], v)
	case api.CmdCall:
		params := r.graphs[callee.Proc].Params
		for k, name := range c.Names[1:] {
			f.assign(g, name, callee.Now[params+k])
		}
	}
	f.Steps = append(f.Steps, s)
	f.At = g.Edges[i].To
}

// input returns the value that a machine assigns as the next input.
func (r *replay) input(g api.Graph, name string) api.Value {
	k := slices.IndexFunc(g.Vars, func(v api.Var) bool { return v.Name == name })
	i := r.used
	r.used++
	if i < len(r.inputs) && r.inputs[i].Sort == g.Vars[k].Sort {
		return r.inputs[i]
	}
	return ZeroValues(g.Vars[k : k+1])[0]
}

// Results returns the values of the results of a procedure at the exit of a frame.
func Results(g api.Graph, f *Frame) []api.Value { return f.Now[g.Params : g.Params+g.Results] }
