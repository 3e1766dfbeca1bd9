package flow

import (
	"slices"

	"chcsolver/api"
	"chcsolver/lang"
	"chcsolver/progcheck"
	"chcsolver/tree"
)

// builder translates a procedure and numbers the locations.
type builder struct {
	graph   api.Graph
	body    []api.Stmt
	base    int   // the Where value of the first statement
	asserts []int // the Where values of all assertions
}

// Build returns the flow graphs of the procedures of a program.
func Build(p api.Program) ([]api.Graph, api.Errno) {
	if !progcheck.Accepts(p) {
		return nil, api.ErrInvalid
	}
	asserts := progcheck.Assertions(p)
	var l []api.Graph
	for i, f := range p.Procs {
		vars := slices.Concat(f.Params, f.Results, f.Locals)
		b := &builder{api.Graph{Proc: f.Name, Params: len(f.Params), Results: len(f.Results), Vars: vars, Locations: 2}, f.Body, 1000 * i, asserts}
		b.list(lang.Children(f.Body, -1), 0, 1)
		l = append(l, b.graph)
	}
	if !Valid(l) {
		return nil, api.ErrLimit
	}
	return l, api.OK
}

func (b *builder) location() int {
	b.graph.Locations++
	return b.graph.Locations - 1
}

func (b *builder) edge(from, to int, c api.Cmd) {
	c.Names = slices.Clone(c.Names)
	c.Terms = tree.CloneTerms(c.Terms)
	b.graph.Edges = append(b.graph.Edges, api.Edge{From: from, To: to, Cmd: c})
}

// list translates a list of statements from one location to another one.
func (b *builder) list(l []int, from, to int) {
	if len(l) == 0 {
		b.edge(from, to, api.Cmd{Kind: api.CmdSkip})
	}
	for i, s := range l {
		end := to
		if i < len(l)-1 {
			end = b.location()
		}
		b.statement(s, from, end)
		from = end
	}
}

func (b *builder) assume(from, to int, c api.Term) {
	b.edge(from, to, api.Cmd{Kind: api.CmdAssume, Terms: []api.Term{c}})
}

func (b *builder) statement(i, from, to int) {
	s := b.body[i]
	switch s.Op {
	case api.StmtSkip:
		b.edge(from, to, api.Cmd{Kind: api.CmdSkip})
	case api.StmtReturn:
		b.edge(from, 1, api.Cmd{Kind: api.CmdSkip})
	case api.StmtAssign:
		b.edge(from, to, api.Cmd{Kind: api.CmdAssign, Names: s.Names, Terms: s.Terms})
	case api.StmtHavoc:
		b.edge(from, to, api.Cmd{Kind: api.CmdHavoc, Names: s.Names})
	case api.StmtAssume:
		b.assume(from, to, s.Terms[0])
	case api.StmtAssert:
		num, _ := slices.BinarySearch(b.asserts, b.base+i)
		b.edge(from, to, api.Cmd{Kind: api.CmdAssert, Terms: s.Terms, Num: num})
	case api.StmtStore:
		array := tree.Var(s.Names[0], api.SortArray)
		b.edge(from, to, api.Cmd{Kind: api.CmdAssign, Names: s.Names, Terms: []api.Term{tree.Node(api.Node{Op: api.OpStore}, array, s.Terms[0], s.Terms[1])}})
	case api.StmtCall:
		b.edge(from, to, api.Cmd{Kind: api.CmdCall, Names: s.Names, Terms: s.Terms})
	case api.StmtBlock:
		b.list(lang.Children(b.body, i), from, to)
	case api.StmtIf:
		blocks := lang.Children(b.body, i)
		yes := b.location()
		no := b.location()
		b.assume(from, yes, s.Terms[0])
		b.assume(from, no, tree.Not(s.Terms[0]))
		b.statement(blocks[0], yes, to)
		b.statement(blocks[1], no, to)
	case api.StmtWhile:
		inside := b.location()
		b.assume(from, inside, s.Terms[0])
		b.assume(from, to, tree.Not(s.Terms[0]))
		b.statement(i+1, inside, from)
	}
}
