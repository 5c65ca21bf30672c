package vm

import (
	"wisp/api"
	"wisp/prim"
)

// Step does the next instruction; yielded: it was yield.
func (m *Machine) Step() (yielded bool) {
	if m == nil || m.status != api.Running {
		return false
	}
	p, x, f := m.Look()
	if f == api.FaultNone {
		f = m.do(p, x)
	}
	if f != api.FaultNone {
		m.fail(f)
		return false
	}
	return p.Op == api.OpYield
}

// Frame runs one frame.
func (m *Machine) Frame(pad uint8, budget int) (api.Out, api.Errno) {
	if m == nil {
		return api.Out{}, api.ErrHandle
	}
	if budget < api.MaxCost || budget > api.MaxBudget {
		return api.Out{}, api.ErrBudget
	}
	m.space.Begin(pad)
	steps, spent := m.work(budget)
	return api.Out{
		Status: m.status,
		Fault:  m.fault,
		Steps:  steps,
		Spent:  spent,
		Idle:   budget - spent,
		Screen: m.space.Screen(),
		Tones:  m.space.Tones(),
	}, api.OK
}

// work does a frame's instructions, and tells how many were done and what they cost. It is not made of Steps: each would look a second time at what must be looked at here, for its cost.
func (m *Machine) work(budget int) (steps, spent int) {
	for m.status == api.Running && spent < budget {
		p, x, f := m.Look()
		if f == api.FaultNone && p.Cost > budget-spent {
			break
		}
		if f == api.FaultNone {
			m.space.At(spent)
			f = m.do(p, x)
		}
		if f != api.FaultNone {
			m.fail(f)
			break
		}
		steps++
		spent += p.Cost
		if p.Op == api.OpYield {
			break
		}
	}
	return steps, spent
}

// fail ends the machine's work for good.
func (s *standing) fail(f api.Fault) {
	s.status, s.fault = api.Faulted, f
}

// do does the instruction that Look tells; with a fault nothing has changed.
func (m *Machine) do(p api.Prim, x uint16) api.Fault {
	behind := m.at + cellSize
	if p.Operand {
		behind += cellSize
	}
	on, f := m.done(p.Op, x, behind)
	if f == api.FaultNone {
		m.at = on
	}
	return f
}

// done does what the table says, but for where the machine goes on, which it tells. What is not of control is plain.
func (m *Machine) done(op int, x, behind uint16) (uint16, api.Fault) {
	switch op {
	case api.OpYield:
		return behind, api.FaultNone
	case api.OpExit:
		if m.ret.Len() > 0 {
			return m.ret.Pop(api.KindCall)
		}
		fallthrough
	case api.OpHalt:
		m.status = api.Halted
		return behind, api.FaultNone
	case api.OpConst, api.OpLit:
		return behind, m.data.Push(x)
	case api.OpEnter, api.OpZBranch, api.OpLoop:
		if leads, f := m.leads(op, behind); !leads {
			return behind, f
		}
		fallthrough
	case api.OpBranch:
		return x, api.FaultNone
	}
	return behind, prim.Do(op, m.data, m.ret, m.space)
}

// leads does what is an instruction's own ahead of what it shares with branch, and tells whether it comes to that.
func (s *standing) leads(op int, behind uint16) (bool, api.Fault) {
	switch op {
	case api.OpEnter:
		f := s.ret.Push(api.Cell{Kind: api.KindCall, Value: behind})
		return f == api.FaultNone, f
	case api.OpZBranch:
		f := s.data.Need(1, 0)
		return f == api.FaultNone && s.data.Pop() == 0, f
	}
	return s.turns()
}

// turns does a loop's count, and tells whether there is one turn more.
func (s *standing) turns() (bool, api.Fault) {
	index, f := s.ret.At(0, api.KindIndex)
	if f != api.FaultNone {
		return false, f
	}
	limit, f := s.ret.At(1, api.KindLimit)
	if f != api.FaultNone {
		return false, f
	}
	if index+1 != limit {
		s.ret.Set(index + 1)
		return true, api.FaultNone
	}
	s.ret.Pop(api.KindIndex)
	s.ret.Pop(api.KindLimit)
	return false, api.FaultNone
}
