package debug

import (
	"wisp/api"
	"wisp/vm"
)

// change is what a step has changed of a state, but for its status: ahead of a step the machine is Running.
type change struct {
	at   uint16
	data cut[uint16]
	ret  cut[api.Cell]
}

// cut is what a step has taken of a stack: how many cells, from the lowest one on, have stayed, and those that were above them.
type cut[T comparable] struct {
	kept  int
	taken []T
}

func stepped(ahead, behind vm.State) change {
	return change{at: ahead.At, data: cutOf(ahead.Data, behind.Data), ret: cutOf(ahead.Return, behind.Return)}
}

func cutOf[T comparable](ahead, behind []T) cut[T] {
	kept := 0
	for kept < min(len(ahead), len(behind)) && ahead[kept] == behind[kept] {
		kept++
	}
	// A clone of no cells would keep the whole list in memory.
	return cut[T]{kept: kept, taken: append([]T(nil), ahead[kept:]...)}
}

// undone is the state ahead of the step; that behind it is used up.
func (c change) undone(behind vm.State) vm.State {
	return vm.State{At: c.at, Status: api.Running, Data: c.data.undone(behind.Data), Return: c.ret.undone(behind.Return)}
}

func (c cut[T]) undone(behind []T) []T {
	return append(behind[:c.kept], c.taken...)
}

// undoing is what undoes a step, all but in the machine, which is made anew when all is undone: what the step has changed of the state; the frame, the bytes that were written and the call as they were ahead of it; its cost.
func (s *Session) undoing(changed change, was frame, written []spot, in *call, cost int) func() {
	return func() {
		s.state = changed.undone(s.state)
		s.frame = was
		for _, x := range written {
			s.machine.Memory().Store(x.at, x.value)
		}
		s.unspend(in, cost)
	}
}

// back undoes the last n steps.
func (s *Session) back(n int) {
	left := len(s.undo) - n
	for i := len(s.undo) - 1; i >= left; i-- {
		s.undo[i]()
	}
	clear(s.undo[left:])
	s.undo = s.undo[:left]
	s.machine = s.machineThere()
}

// machineThere is a machine that stands where the session does: vm sets none back. In the memory there stands again what instructions write; but gamepad, time and tones are not of their making.
func (s *Session) machineThere() *vm.Machine {
	x := s.machine.Memory().Image()
	x.Pad, x.Time = s.pad(), uint16(s.begun)
	// No error: a machine of this cartridge has stood there.
	m, _ := vm.Restore(s.cart, s.state, x)
	for _, t := range s.tones {
		m.Memory().At(t.Cycle)
		m.Memory().Play(t.Pitch, t.Volume)
	}
	m.Memory().SetCell(api.PortTone, x.Pitch)
	return m
}

// pad is the gamepad of the frame that was begun last.
func (s *Session) pad() uint8 {
	if s.begun == 0 {
		return 0
	}
	return s.pads[s.begun-1]
}
