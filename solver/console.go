package solver

import (
	"strconv"
	"strings"

	"chcsolver/api"
	"chcsolver/certificate"
	"chcsolver/checker"
	"chcsolver/lang"
	"chcsolver/pipeline"
	"chcsolver/scheduler"
	"chcsolver/system"
	"chcsolver/value"
)

// firstBudget is the budget of a new console.
const firstBudget = 100

// Console executes commands.
type Console struct {
	program  *api.Program
	system   *api.System
	encoding int // by which the system was made of the program
	done     []api.Transform
	plan     *scheduler.Plan
	budget   int
}

// New returns a console without program and system.
func New() *Console { return &Console{budget: firstBudget} }

// commands returns the methods that execute the commands, by their first words.
func commands() map[string]func(c *Console, rest string, more bool) (string, api.Errno) {
	return map[string]func(c *Console, rest string, more bool) (string, api.Errno){
		"system":    (*Console).readSystem,
		"program":   (*Console).readProgram,
		"encode":    (*Console).encode,
		"transform": (*Console).transform,
		"budget":    (*Console).setBudget,
		"play":      (*Console).play,
		"model":     (*Console).model,
		"tree":      (*Console).tree,
		"inputs":    (*Console).inputs,
		"check":     (*Console).check,
		"lemmas":    (*Console).lemmas,
	}
}

// reply joins the words of a reply.
func reply(words ...string) string { return strings.Join(words, " ") }

// Line executes a command and returns its reply.
func (c *Console) Line(s string) (string, api.Errno) {
	if c == nil {
		return "", api.ErrInvalid
	}
	word, rest, more := strings.Cut(s, " ")
	command, known := commands()[word]
	if !known {
		return "", api.ErrSyntax
	}
	return command(c, rest, more)
}

// use makes a system the current one, with a new plan for what it is transformed into.
func (c *Console) use(s api.System, transformed api.System, done []api.Transform) api.Errno {
	p, e := scheduler.New(transformed)
	if e != api.OK {
		return e
	}
	c.system, c.done, c.plan = &s, done, p
	return api.OK
}

func (c *Console) readSystem(rest string, more bool) (string, api.Errno) {
	if !more {
		return "", api.ErrSyntax
	}
	s, _, e := system.Parse(rest)
	if e != api.OK {
		return "", e
	}
	if e := c.use(s, s, nil); e != api.OK {
		return "", e
	}
	c.program, c.encoding = nil, 0
	return reply("ok"), api.OK
}

func (c *Console) readProgram(rest string, more bool) (string, api.Errno) {
	if !more {
		return "", api.ErrSyntax
	}
	p, _, e := lang.Parse(rest)
	if e != api.OK {
		return "", e
	}
	c.program, c.encoding = &p, 0
	c.system, c.done, c.plan = nil, nil, nil
	return reply("ok"), api.OK
}

func (c *Console) encode(rest string, _ bool) (string, api.Errno) {
	n := 0
	switch rest {
	case "step":
		n = 1
	case "block":
		n = 2
	case "sum":
		n = 3
	}
	by, known := encodingOf(n)
	if !known {
		return "", api.ErrSyntax
	}
	if c.program == nil {
		return "", api.ErrState
	}
	s, _, e := by.encode(*c.program)
	if e != api.OK {
		return "", e
	}
	if e := c.use(s, s, nil); e != api.OK {
		return "", e
	}
	c.encoding = n
	return reply("ok", strconv.Itoa(len(s.Clauses))), api.OK
}

func (c *Console) transform(_ string, more bool) (string, api.Errno) {
	switch {
	case more:
		return "", api.ErrSyntax
	case c.system == nil:
		return "", api.ErrState
	}
	t, done, e := pipeline.Standard(*c.system)
	if e != api.OK {
		return "", e
	}
	if e := c.use(*c.system, t, done); e != api.OK {
		return "", e
	}
	return reply("ok"), api.OK
}

// decimal returns the number that decimal digits without leading zeros denote, if it is from least to most.
func decimal(s string, least, most int) (int, bool) {
	n, e := strconv.Atoi(s)
	return n, e == nil && strconv.Itoa(n) == s && n >= least && n <= most
}

func (c *Console) setBudget(rest string, _ bool) (string, api.Errno) {
	n, is := decimal(rest, 0, api.MaxBudget)
	if !is {
		return "", api.ErrSyntax
	}
	c.budget = n
	return reply("ok"), api.OK
}

func (c *Console) play(rest string, _ bool) (string, api.Errno) {
	words := strings.Split(rest, " ")
	if len(words) < 2 || len(words) > 3 || len(words) == 3 && words[2] != "share" {
		return "", api.ErrSyntax
	}
	engine, is := decimal(words[0], api.EngineReach, api.EnginePoly)
	steps, both := decimal(words[1], 0, api.MaxTurns)
	if !is || !both {
		return "", api.ErrSyntax
	}
	if c.system == nil {
		return "", api.ErrState
	}
	if _, e := c.plan.Play([]api.Turn{{Engine: engine, Steps: steps, Share: len(words) == 3}}, c.budget); e != api.OK {
		return "", e
	}
	switch c.answer().Answer {
	case api.Sat:
		return reply("sat"), api.OK
	case api.Unsat:
		return reply("unsat"), api.OK
	}
	return reply("unknown"), api.OK
}

// answer returns the answer of the plan, mapped back to the system.
func (c *Console) answer() api.Round {
	if c.system == nil {
		return api.Round{}
	}
	return mapped(*c.system, c.done, c.plan.Answer())
}

func (c *Console) model(_ string, more bool) (string, api.Errno) {
	if more {
		return "", api.ErrSyntax
	}
	r := c.answer()
	if r.Answer != api.Sat {
		return "", api.ErrState
	}
	return certificate.FormatModel(r.Model), api.OK
}

func (c *Console) tree(_ string, more bool) (string, api.Errno) {
	if more {
		return "", api.ErrSyntax
	}
	r := c.answer()
	if r.Answer != api.Unsat {
		return "", api.ErrState
	}
	return certificate.FormatTree(*c.system, r.Tree), api.OK
}

// texts returns the texts of values, separated by spaces.
func texts(l []api.Value) string {
	var words []string
	for _, v := range l {
		words = append(words, value.Format(v))
	}
	return reply(words...)
}

func (c *Console) inputs(_ string, more bool) (string, api.Errno) {
	if more {
		return "", api.ErrSyntax
	}
	r := c.answer()
	if r.Answer != api.Unsat || c.program == nil {
		return "", api.ErrState
	}
	by, _ := encodingOf(c.encoding)
	args, inputs, e := by.inputs(*c.program, r.Tree)
	if e != api.OK {
		return "", e
	}
	return texts(args) + " ; " + texts(inputs), api.OK
}

func (c *Console) check(_ string, more bool) (string, api.Errno) {
	if more {
		return "", api.ErrSyntax
	}
	r := c.answer()
	switch r.Answer {
	case api.Unknown:
		return "", api.ErrState
	case api.Unsat:
		if checker.Tree(*c.system, r.Tree) {
			return reply("accepted"), api.OK
		}
		return reply("rejected"), api.OK
	}
	f, e := checker.Model(*c.system, r.Model, c.budget)
	switch {
	case e != api.OK:
		return "", e
	case f.Answer == api.Unsat:
		return reply("accepted"), api.OK
	case f.Answer == api.Sat:
		return reply("rejected"), api.OK
	}
	return reply("unknown"), api.OK
}

func (c *Console) lemmas(_ string, more bool) (string, api.Errno) {
	switch {
	case more:
		return "", api.ErrSyntax
	case c.system == nil:
		return "", api.ErrState
	}
	return reply(strconv.Itoa(len(c.plan.Lemmas()))), api.OK
}
