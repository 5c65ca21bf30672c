package console_test

import (
	"bytes"
	"math"
	"math/rand"
	"slices"
	"testing"

	"wisp/api"
	"wisp/carts"
	"wisp/console"
	"wisp/mem"
	"wisp/vm"
)

// saved is what Restore is handed.
type saved struct {
	budget int
	cart   []byte
	frames int
	state  vm.State
	image  mem.Image
}

// savedOf is what a console with a cartridge tells of itself.
func savedOf(c *console.Console) saved {
	m := c.Machine()
	_, _, frames := c.Status()
	return saved{c.Budget(), c.Cart(), frames, m.State(), m.Memory().Image()}
}

func (s saved) restore() (*console.Console, api.Errno) {
	return console.Restore(s.budget, s.cart, s.frames, s.state, s.image)
}

func (s saved) restored(t *testing.T) *console.Console {
	t.Helper()
	c, e := s.restore()
	if c == nil || e != fine {
		t.Fatalf("19.7: Restore = %t, %d", c != nil, e)
	}
	return c
}

// some is one that is in order: of a life of the banks 2 and 9, behind some frames, in the midst of a turn.
func some(t *testing.T) saved {
	t.Helper()
	c := playing(t, 50, busy)
	c.Play(1, 2, 3, 4, 5)
	return savedOf(c)
}

func TestRestore(t *testing.T) { // 19.7: this cartridge is in, the machine stands there, and so many frames have been played
	for _, frames := range []int{0, 1, 5, 1 << 40, greatestCount} {
		for _, budget := range []int{4, 50, 16384} {
			s := some(t)
			s.frames, s.budget = frames, budget
			c := s.restored(t)
			wantStatus(t, c, running, none, frames)
			if c.Budget() != budget || !bytes.Equal(c.Cart(), s.cart) || c.Check() != (api.Verdict{}) {
				t.Errorf("19.7: the budget %d, the verdict %v", c.Budget(), c.Check())
			}
			m := c.Machine()
			if !sameState(m.State(), s.state) || !sameImage(m.Memory().Image(), s.image) {
				t.Error("19.7: the machine stands elsewhere")
			}
			d := c.Copy()
			want, _ := m.Frame(7, budget)
			wantOut(t, "19.7", c.Frame(7), want)
			d.Reset() // the cartridge begins anew: what was restored is gone
			wantStatus(t, d, running, none, 0)
			wantStands(t, "Reset behind Restore", d, machineOf(t, s.cart))
		}
	}
}

func TestRestoreOfAnyStanding(t *testing.T) { // 19.7: one that no life leads to: other stacks, any status and fault, another memory
	s := some(t)
	x := &s.image
	for i := range x.Ram {
		x.Ram[i] = byte(i * 7)
	}
	x.Screen[3071], x.Banks[1].Data[16383], x.Chosen, x.Pad, x.Pitch, x.Volume, x.Time = 9, 8, 15, 7, 6, 5, 65535
	for _, state := range []vm.State{
		{At: 65535, Status: running, Data: slices.Repeat([]uint16{7}, 256), Return: slices.Repeat([]api.Cell{{Kind: 4, Value: 1}}, 128)},
		{Status: halted, Data: []uint16{1}, Return: []api.Cell{{Kind: 1}, {Kind: 2}, {Kind: 3}, {Kind: 4}}},
		{Status: faulted, Fault: 1},
		{At: 3, Status: faulted, Fault: 7},
		{At: 130, Status: running},
	} {
		s.state = state
		c := s.restored(t)
		wantStatus(t, c, state.Status, state.Fault, 5)
		if m := c.Machine(); !sameState(m.State(), state) || !sameImage(m.Memory().Image(), *x) {
			t.Errorf("19.7: the machine stands elsewhere than %v", state)
		}
		if o := c.Frame(1); state.Status != running {
			wantOut(t, "19.9", o, api.Out{Status: state.Status, Fault: state.Fault, Idle: 50, Screen: x.Screen})
		}
		wantStatus(t, c, c.Machine().State().Status, c.Machine().State().Fault, 6)
	}
}

// spoilers are what may be wrong in what is handed to Restore, in the order in which it is told.
var spoilers = []struct {
	what  string
	e     api.Errno
	spoil []func(s *saved)
}{
	{"the budget", badBudget, []func(s *saved){
		func(s *saved) { s.budget = 3 },
		func(s *saved) { s.budget = 16385 },
		func(s *saved) { s.budget = 0 },
		func(s *saved) { s.budget = -4 },
		func(s *saved) { s.budget = math.MinInt },
	}},
	{"the cartridge", badSum, []func(s *saved){
		func(s *saved) { s.cart = s.cart[:len(s.cart)-1] },
		func(s *saved) { s.cart[40] ^= 4 },
	}},
	{"the frames", badInput, []func(s *saved){
		func(s *saved) { s.frames = -1 },
		func(s *saved) { s.frames = -greatestCount - 1 },
	}},
	{"the state", badInput, []func(s *saved){
		func(s *saved) { s.state.Status = 0 },
		func(s *saved) { s.state.Status = 4 },
		func(s *saved) { s.state.Fault = 1 },
		func(s *saved) { s.state.Status = faulted },
		func(s *saved) { s.state.Status, s.state.Fault = faulted, 8 },
		func(s *saved) { s.state.Data = make([]uint16, 257) },
		func(s *saved) { s.state.Return = slices.Repeat([]api.Cell{{Kind: 1}}, 129) },
		func(s *saved) { s.state.Return = []api.Cell{{Kind: 5}} },
		func(s *saved) { s.state = vm.State{} },
	}},
	{"the image", badInput, []func(s *saved){
		func(s *saved) { s.image.Ram = s.image.Ram[:len(s.image.Ram)-1] },
		func(s *saved) { s.image.Screen = nil },
		func(s *saved) { s.image.Chosen = 16 },
		func(s *saved) { s.image.Banks = s.image.Banks[:1] },
		func(s *saved) { s.image.Banks = slices.Clone(s.image.Banks); s.image.Banks[1].Num = 8 },
		func(s *saved) { s.image = mem.Image{} },
	}},
}

func TestRefusedRestores(t *testing.T) { // 19.7, R2: each reason alone; two at once: the one that is named first; all sets of them
	for set := 1; set < 1<<len(spoilers); set++ {
		for try := range 9 {
			s, what, want := some(t), "", fine
			for i, x := range spoilers {
				if set>>i&1 == 0 {
					continue
				}
				x.spoil[try%len(x.spoil)](&s)
				if what += x.what + " "; want == fine {
					want = x.e
				}
			}
			if c, e := s.restore(); c != nil || e != want {
				t.Errorf("19.7: Restore with %swrong (%d) = %t, %d, want %d", what, try, c != nil, e, want)
			}
		}
	}
}

func TestRestoreOfRefusedImages(t *testing.T) { // 19.7: each of cart.Decode's errors, ahead of frames and states that may not be
	for what, x := range refusedImages(t) {
		s := some(t)
		s.cart = x.bytes
		for _, frames := range []int{5, -1} {
			for _, status := range []api.Status{running, 9} {
				s.frames, s.state.Status = frames, status
				if c, e := s.restore(); c != nil || e != x.e {
					t.Errorf("19.7: Restore with %s, %d frames and the status %d = %t, %d, want %d", what, frames, status, c != nil, e, x.e)
				}
			}
		}
	}
}

func TestRestoredPlaysTheSame(t *testing.T) { // 19.8: of any cartridges, behind any frames
	r := rand.New(rand.NewSource(1980))
	goOn := 0
	for range 250 {
		c := made(t, carts.Budget(r))
		c.Load(imageOfCart(t, anyCart(t, r)))
		c.Play(anyPads(r, r.Intn(10))...)
		for range 4 {
			d := savedOf(c).restored(t)
			if got, want := savedOf(d), savedOf(c); !sameState(got.state, want.state) || !sameImage(got.image, want.image) || got.frames != want.frames {
				t.Fatalf("19.8: restored behind %d frames: %d, and %v; want %v", want.frames, got.frames, got.state, want.state)
			}
			pads := anyPads(r, r.Intn(8))
			want := c.Play(pads...)
			for i, o := range d.Play(pads...) {
				wantOut(t, "19.8: restored", o, want[i])
			}
			if r.Intn(2) == 0 {
				c = d // a restored one can be restored too
			}
		}
		if status, _, _ := c.Status(); status == running {
			goOn++
		}
	}
	if goOn < 60 {
		t.Errorf("only %d go on", goOn)
	}
}
