package debug

import "wisp/api"

// frame is the one that was begun last: how many have been begun, what has been spent in it, whether a yield has been done in it, and its tones. A tone is only ever put behind the others, so that what undoes a step may keep the list as it was.
type frame struct {
	begun, spent int
	yielded      bool
	tones        []api.Tone
}

// spot is an address and the byte there.
type spot struct {
	at    uint16
	value uint8
}

// atEnd tells whether there is no next step.
func (s *Session) atEnd() bool {
	if s.state.Status != api.Running || len(s.undo) == api.MaxSteps {
		return true
	}
	p, _, _ := s.machine.Look()
	return s.workEnded(p.Cost) && s.begun == len(s.pads)
}

// workEnded tells whether an instruction of that cost is none of the frame that was begun last. (One that cannot be fetched, or is none, has the cost 0; but without a cycle left nothing is looked at.)
func (s *Session) workEnded(cost int) bool {
	left := s.budget - s.spent
	return s.begun == 0 || s.yielded || left == 0 || cost > left
}

// begin begins the next frame.
func (s *Session) begin() {
	s.machine.Memory().Begin(s.pads[s.begun])
	s.frame = frame{begun: s.begun + 1}
}

// step does the next step, which there must be, and keeps what undoes it.
func (s *Session) step() {
	p, x, _ := s.machine.Look()
	state, was, in := s.state, s.frame, s.in
	written := s.read(writes(p, state.Data))
	if s.workEnded(p.Cost) {
		s.begin()
	}
	s.machine.Memory().At(s.spent)
	s.yielded = s.machine.Step()
	s.state = s.machine.State()
	if s.state.Status == api.Faulted {
		p = api.Prim{}
	}
	s.hear(written)
	s.spent += p.Cost
	s.spend(p.Op, x, p.Cost)
	s.undo = append(s.undo, s.undoing(stepped(state, s.state), was, written, in, p.Cost))
}

// hear keeps the tone that an instruction has played, if it has: none writes to the play port twice, or to the pitch behind it.
func (s *Session) hear(written []spot) {
	m := s.machine.Memory()
	for _, x := range written {
		if x.at == api.PortPlay {
			s.tones = append(s.tones, api.Tone{Cycle: s.spent, Pitch: m.Cell(api.PortTone), Volume: m.Load(api.PortPlay)})
		}
	}
}

// read tells the bytes at these addresses.
func (s *Session) read(addresses []uint16) []spot {
	found := make([]spot, len(addresses))
	for i, at := range addresses {
		found[i] = spot{at, s.Peek(at)}
	}
	return found
}

// writes are the addresses to which an instruction writes, if it does not fault.
func writes(p api.Prim, data []uint16) []uint16 {
	if len(data) < p.In {
		return nil
	}
	takes := data[len(data)-p.In:]
	switch p.Op {
	case api.OpStore, api.OpPlus:
		return []uint16{takes[1], takes[1] + 1}
	case api.OpCStore:
		return []uint16{takes[1]}
	case api.OpPlot:
		if x, y := takes[0], takes[1]; x < api.Width && y < api.Height {
			return []uint16{api.ScreenAt + api.Width*y + x}
		}
	case api.OpTone:
		return []uint16{api.PortTone, api.PortTone + 1, api.PortPlay}
	case api.OpBank:
		return []uint16{api.PortBank}
	}
	return nil
}
