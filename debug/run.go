package debug

import (
	"slices"

	"wisp/api"
)

// Why Run has stopped.
const (
	ended   = 0
	stopped = 1
	changed = 2
	faulted = 3
)

// marks are addresses, each once, rising.
type marks []uint16

// set puts an address there, or takes it away.
func (m *marks) set(at uint16, on bool) {
	i, has := slices.BinarySearch(*m, at)
	switch {
	case on && !has:
		*m = slices.Insert(*m, i, at)
	case !on && has:
		*m = slices.Delete(*m, i, i+1)
	}
}

func (m marks) has(at uint16) bool {
	_, has := slices.BinarySearch(m, at)
	return has
}

// Run goes on until a breakpoint, a watch or the end; why it stopped.
func (s *Session) Run() int {
	if s == nil {
		return ended
	}
	for !s.atEnd() {
		ahead := s.read(s.watched())
		s.step()
		switch {
		case s.state.Status == api.Faulted:
			return faulted
		case slices.ContainsFunc(ahead, s.differs):
			return changed
		case s.state.Status == api.Running && s.stops.has(s.state.At):
			return stopped
		}
	}
	return ended
}

// watched are the watches whose byte may be another one behind the next step: where it writes, or the ports of a frame that it begins. If it chooses a bank, these are all, since the whole window is another one then.
func (s *Session) watched() []uint16 {
	p, _, _ := s.machine.Look()
	may := writes(p, s.state.Data)
	if slices.Contains(may, api.PortBank) {
		return s.watches
	}
	if s.workEnded(p.Cost) {
		may = append(may, api.PortPad, api.PortTime, api.PortTime+1)
	}
	return slices.DeleteFunc(may, func(at uint16) bool { return !s.watches.has(at) })
}

// differs tells whether an address has another byte than it had.
func (s *Session) differs(had spot) bool {
	return s.Peek(had.at) != had.value
}
