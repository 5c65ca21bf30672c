package meaning

import (
	"wisp/api"
	"wisp/prim"
)

// here is the place where the word stands that was begun last.
func (m *Machine) here() place {
	return m.stands[len(m.stands)-1]
}

// goOn leaves an instruction for the one behind it, or for the one to which it leads.
func (m *Machine) goOn(leads bool) {
	m.stands[len(m.stands)-1] = m.here().on(leads)
}

// do does the instruction at which the machine stands; with a fault nothing has changed. What is not of control is plain.
func (m *Machine) do(x instruction) api.Fault {
	switch x.op {
	case api.OpEnter:
		return m.enter(x.word)
	case api.OpExit:
		return m.exit()
	}
	leads, f := m.done(x)
	if f == api.FaultNone {
		m.goOn(leads)
	}
	return f
}

// enter leaves the caller where it goes on once the word has ended. The cell says no more than that there is a call.
func (m *Machine) enter(w *word) api.Fault {
	if f := m.ret.Push(api.Cell{Kind: api.KindCall}); f != api.FaultNone {
		return f
	}
	m.goOn(false)
	m.stands = append(m.stands, w.begin())
	return api.FaultNone
}

// exit ends the word that was begun last: a Call on top is always its own, for each word that has been begun but main has put one there.
func (m *Machine) exit() api.Fault {
	if m.ret.Len() == 0 {
		m.status = api.Halted
		return api.FaultNone
	}
	if _, f := m.ret.Pop(api.KindCall); f != api.FaultNone {
		return f
	}
	m.stands = m.stands[:len(m.stands)-1]
	return api.FaultNone
}

// done does an instruction that stays in its body, and tells whether it leads elsewhere than behind it.
func (m *Machine) done(x instruction) (leads bool, f api.Fault) {
	switch x.op {
	case api.OpYield:
		return false, api.FaultNone
	case api.OpHalt:
		m.status = api.Halted
		return false, api.FaultNone
	case api.OpConst, api.OpLit:
		return false, m.data.Push(x.value)
	case api.OpBranch:
		return true, api.FaultNone
	case api.OpZBranch:
		f := m.data.Need(1, 0)
		return f == api.FaultNone && m.data.Pop() == 0, f
	case api.OpLoop:
		return m.turn()
	}
	return false, prim.Do(x.op, m.data, m.ret, m.space)
}

// turn counts a loop's turn, and tells whether there is one more.
func (m *Machine) turn() (more bool, f api.Fault) {
	index, f := m.ret.At(0, api.KindIndex)
	if f != api.FaultNone {
		return false, f
	}
	limit, f := m.ret.At(1, api.KindLimit)
	if f != api.FaultNone {
		return false, f
	}
	index++
	if index == limit {
		m.ret.Pop(api.KindIndex)
		m.ret.Pop(api.KindLimit)
		return false, api.FaultNone
	}
	m.ret.Set(index)
	return true, api.FaultNone
}
