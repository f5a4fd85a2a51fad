package task

import (
	"spinney/api"
	"spinney/compose"
	"spinney/nodes"
	"spinney/quant"
	"spinney/rel"
)

// The variables of a relation: the even ones are the current ones, the odd ones the next ones.
const (
	evens = 0x55
	odds  = 0xaa
)

// job is a job over a store. What its operation doesn't take is the constant 0, which always is a node.
type job struct {
	api.Job
	s *nodes.Store
}

// stage tells what is asked next, of the answer to what was asked ahead of it; the first one is handed argument A. Where variables lie is asked no sooner than that: a machine that has done nothing yet hangs on no order.
type stage func(h api.Handle) question

// taken tells the job without the arguments that its operation doesn't take.
func taken(j api.Job) api.Job {
	switch j.Op {
	case api.OpNot, api.OpExists, api.OpForall:
		j.B, j.C = 0, 0
	case api.OpIte:
		// It takes all three.
	default:
		j.C = 0
	}
	return j
}

// stages tells what is to be asked, one behind the other; nothing, if there is no such operation.
func (j job) stages() []stage {
	switch j.Op {
	case api.OpNot:
		return []stage{j.not}
	case api.OpAnd:
		return []stage{j.and}
	case api.OpOr:
		return []stage{j.or}
	case api.OpXor:
		return []stage{j.xor}
	case api.OpIte:
		return []stage{j.ite}
	case api.OpExists:
		return []stage{j.exists}
	case api.OpForall:
		return []stage{j.forall}
	case api.OpCompose:
		return []stage{j.compose}
	case api.OpNext:
		return []stage{j.and, j.ends, j.turned}
	case api.OpPrev:
		return []stage{j.turned, j.and, j.starts}
	}
	return nil
}

// refused tells why the job can't be done; OK, if it can. The layers that know are asked for the same of the constant 0, of which they have nothing to make.
func (j job) refused() api.Errno {
	if !j.s.Is(j.A) || !j.s.Is(j.B) || !j.s.Is(j.C) {
		return api.ErrNode
	}
	err := api.OK
	switch j.Op {
	case api.OpExists, api.OpForall:
		_, err = quant.Exists(j.s, api.False, j.Mask)
	case api.OpCompose:
		_, err = compose.Compose(j.s, api.False, int(j.Mask), api.False)
	case api.OpNext, api.OpPrev:
		_, err = rel.Next(j.s, j.A, api.False)
	}
	return err
}

// not is the stage of OpNot.
func (j job) not(h api.Handle) question { return differ{a: h, b: api.True} }

// and is the stage of OpAnd. Where states and a relation are its arguments, it tells the steps that begin, or end, in the states.
func (j job) and(h api.Handle) question { return choose(h, j.B, api.False) }

// or is the stage of OpOr.
func (j job) or(h api.Handle) question { return choose(h, api.True, j.B) }

// xor is the stage of OpXor.
func (j job) xor(h api.Handle) question { return differ{a: h, b: j.B} }

// ite is the stage of OpIte.
func (j job) ite(h api.Handle) question { return choose(h, j.B, j.C) }

// exists is the stage of OpExists.
func (j job) exists(h api.Handle) question { return j.without(h, j.Mask, either) }

// forall is the stage of OpForall.
func (j job) forall(h api.Handle) question { return j.without(h, j.Mask, both) }

// ends tells where steps end, in next variables.
func (j job) ends(h api.Handle) question { return j.without(h, evens, either) }

// starts tells where steps begin.
func (j job) starts(h api.Handle) question { return j.without(h, odds, either) }

// without takes the variables of mask out of h; those that there aren't are left aside.
func (j job) without(h api.Handle, mask uint8, merge merger) question {
	o, c := j.s.Order(), cut{h: h, merge: merge}
	for level := range j.s.Vars() {
		c.out |= mask >> o.Var(level) & 1 << level
	}
	return c
}

// compose is the stage of OpCompose.
func (j job) compose(h api.Handle) question {
	w := subst{f: h}
	for level := range j.s.Vars() {
		w.inputs[level] = variable(level)
	}
	w.inputs[j.s.Order().Level(int(j.Mask))] = node(j.s, j.B)
	return w.followed(j.s)
}

// turned tells what h is where each current variable and the next one beside it change names.
func (j job) turned(h api.Handle) question {
	o, w := j.s.Order(), subst{f: h}
	for level := range j.s.Vars() {
		w.inputs[level] = variable(o.Level(o.Var(level) ^ 1))
	}
	return w
}
