package task

import (
	"spinney/api"
	"spinney/nodes"
)

// question asks for the node of a function that is told by nodes.
type question interface {
	// plain tells the answer, and true, where it is there already.
	plain(s *nodes.Store) (api.Handle, bool)
	// top tells the uppermost level on whose variable the answer may hang; plain told none.
	top(s *nodes.Store) int
	// half tells the question where that level's variable is fixed: true in the upper half.
	half(s *nodes.Store, level int, upper bool) question
	// join has the machine answer, by the answers to both halves.
	join(m *Machine, level int, low, high api.Handle)
	// held tells l, with the nodes by which the function is told behind it.
	held(l []api.Handle) []api.Handle
}

// split gives a question the join that most of them have: the answers are low and high of a node.
type split struct{}

func (split) join(m *Machine, level int, low, high api.Handle) { m.node(level, low, high) }

// fixed tells a half of a node of that level. Others, which all lie deeper, don't hang on its variable, and stay.
func fixed(s *nodes.Store, h api.Handle, level int, upper bool) api.Handle {
	switch {
	case s.Level(h) != level:
		return h
	case upper:
		return s.High(h)
	}
	return s.Low(h)
}

// choice asks for what is b where a is true, c elsewhere.
type choice struct {
	split
	a, b, c api.Handle
}

// choose makes a choice. Where b or c is a itself, it may as well be the constant that a is there, so that more of the answers are plain.
func choose(a, b, c api.Handle) choice {
	if a == b {
		b = api.True
	}
	if a == c {
		c = api.False
	}
	return choice{a: a, b: b, c: c}
}

func (q choice) plain(*nodes.Store) (api.Handle, bool) {
	switch {
	case q.a == api.True || q.b == q.c:
		return q.b, true
	case q.a == api.False:
		return q.c, true
	case q.b == api.True && q.c == api.False:
		return q.a, true
	}
	return 0, false
}

func (q choice) top(s *nodes.Store) int { return min(s.Level(q.a), s.Level(q.b), s.Level(q.c)) }

func (q choice) half(s *nodes.Store, level int, upper bool) question {
	return choose(fixed(s, q.a, level, upper), fixed(s, q.b, level, upper), fixed(s, q.c, level, upper))
}

func (q choice) held(l []api.Handle) []api.Handle { return append(l, q.a, q.b, q.c) }

// differ asks for what is true where just one of a and b is.
type differ struct {
	split
	a, b api.Handle
}

func (q differ) plain(*nodes.Store) (api.Handle, bool) {
	switch {
	case q.a == q.b:
		return api.False, true
	case q.a == api.False:
		return q.b, true
	case q.b == api.False:
		return q.a, true
	}
	return 0, false
}

func (q differ) top(s *nodes.Store) int { return min(s.Level(q.a), s.Level(q.b)) }

func (q differ) half(s *nodes.Store, level int, upper bool) question {
	return differ{a: fixed(s, q.a, level, upper), b: fixed(s, q.b, level, upper)}
}

func (q differ) held(l []api.Handle) []api.Handle { return append(l, q.a, q.b) }

// merger tells what is asked instead of a node, of what its low and its high became.
type merger func(low, high api.Handle) question

// either is the merger where some value of a variable is enough.
func either(low, high api.Handle) question { return choose(low, api.True, high) }

// both is the merger where it takes both values of a variable.
func both(low, high api.Handle) question { return choose(low, high, api.False) }

// cut asks for h without some variables. It goes by levels, as nodes do.
type cut struct {
	h     api.Handle
	out   uint8 // a bit for each level whose variable is taken out
	merge merger
}

// plain: where nothing is taken out any more; a constant lies below all levels.
func (q cut) plain(s *nodes.Store) (api.Handle, bool) { return q.h, q.out>>s.Level(q.h) == 0 }

func (q cut) top(s *nodes.Store) int { return s.Level(q.h) }

func (q cut) half(s *nodes.Store, level int, upper bool) question {
	q.h = fixed(s, q.h, level, upper)
	return q
}

func (q cut) join(m *Machine, level int, low, high api.Handle) {
	if q.out>>level&1 == 1 {
		m.ask(q.merge(low, high))
		return
	}
	m.node(level, low, high)
}

func (q cut) held(l []api.Handle) []api.Handle { return append(l, q.h) }

// input is what a variable is as: a function, told by the parts of its node. Told so, a variable is one also where the store has no node of it, and needn't be given room.
type input struct {
	level     int
	low, high api.Handle
}

// variable tells the input that is the variable of that level.
func variable(level int) input { return input{level: level, low: api.False, high: api.True} }

// node tells the input that is that node.
func node(s *nodes.Store, h api.Handle) input {
	return input{level: s.Level(h), low: s.Low(h), high: s.High(h)}
}

// subst asks for what f is where its variables are as the inputs, which stand by their levels.
type subst struct {
	split
	f      api.Handle
	inputs [api.MaxVars]input
}

// followed goes down from f as long as the inputs tell the way, which they do where they are constants.
func (q subst) followed(s *nodes.Store) subst {
	for q.f > api.True {
		in := q.inputs[s.Level(q.f)]
		if in.level < s.Vars() {
			return q
		}
		next := s.Low
		if in.low == api.True {
			next = s.High
		}
		q.f = next(q.f)
	}
	return q
}

func (q subst) plain(*nodes.Store) (api.Handle, bool) { return q.f, q.f <= api.True }

// top leaves out the inputs above f's own level: nothing hangs on them any more.
func (q subst) top(s *nodes.Store) int {
	level := s.Vars()
	for _, in := range q.inputs[s.Level(q.f):s.Vars()] {
		level = min(level, in.level)
	}
	return level
}

// half steps down in the inputs of that level. Others stay: they lie deeper and don't hang on the variable, or f doesn't hang on them any more.
func (q subst) half(s *nodes.Store, level int, upper bool) question {
	for i, in := range q.inputs {
		if in.level != level {
			continue
		}
		next := in.low
		if upper {
			next = in.high
		}
		q.inputs[i] = node(s, next)
	}
	return q.followed(s)
}

func (q subst) held(l []api.Handle) []api.Handle {
	l = append(l, q.f)
	for _, in := range q.inputs {
		l = append(l, in.low, in.high)
	}
	return l
}
