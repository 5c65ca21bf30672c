package debug_test

import (
	"math"
	"math/rand"
	"reflect"
	"slices"
	"sync"
	"testing"

	"wisp/api"
	"wisp/debug"
	"wisp/spare"
	"wisp/vm"
)

// user does anything to a session, and holds it against its life.
type user struct {
	*rand.Rand
	t              *testing.T
	what           string
	session        *debug.Session
	life           *life
	at             int // how many steps have been done
	stops, watches map[uint16]bool
	whys           [4]int // why Run has stopped
}

func newUser(t *testing.T, r *rand.Rand, what string, c api.Cart, budget int, pads []uint8) *user {
	u := &user{
		Rand: r, t: t, what: what,
		session: debugging(t, c, budget, pads...), life: lifeOf(t, c, budget, pads),
		stops: map[uint16]bool{}, watches: map[uint16]bool{},
	}
	for range r.Intn(6) {
		u.mark()
	}
	return u
}

// mark puts or takes a stop or a watch.
func (u *user) mark() {
	if u.Intn(3) == 0 {
		mark(u.stops, u.session.Stop, u.place(), u.Intn(3) > 0)
		return
	}
	mark(u.watches, u.session.Watch, corners[u.Intn(len(corners))], u.Intn(3) > 0)
}

// some is a number of steps: of few, of about as many as there are, or of none.
func (u *user) some(have int) int {
	switch u.Intn(4) {
	case 0:
		return u.Intn(have+4) - 2
	case 1:
		return have - u.Intn(2)
	}
	return 1 + u.Intn(4)
}

// place is one where the machine comes by, or any.
func (u *user) place() uint16 {
	if u.Intn(4) == 0 {
		return uint16(u.Intn(65536))
	}
	return u.life.moments[u.Intn(len(u.life.moments))].state.At
}

// act does one thing.
func (u *user) act() {
	u.t.Helper()
	switch u.Intn(8) {
	case 0, 1:
		n := u.some(u.life.end() - u.at)
		want := max(0, min(n, u.life.end()-u.at))
		wantStep(u.t, u.session, n, want)
		u.at += want
	case 2, 3:
		switch n := u.some(u.at); {
		case n < 0:
			wantBack(u.t, u.session, n, 0, badInput)
		case n > u.at:
			wantBack(u.t, u.session, n, 0, past)
		default:
			wantBack(u.t, u.session, n, n, fine)
			u.at -= n
		}
	case 4, 5:
		why, steps := u.life.run(u.at, u.stops, u.watches)
		wantRun(u.t, u.session, why, steps)
		u.at = steps
		u.whys[why]++
	default:
		u.mark()
	}
}

func mark(marks map[uint16]bool, set func(uint16, bool), at uint16, on bool) {
	set(at, on)
	if delete(marks, at); on {
		marks[at] = true
	}
}

func TestLives(t *testing.T) { // 25.2 to 25.9: anything done to sessions of any cartridges
	r := rand.New(rand.NewSource(25))
	var whys [4]int
	long := 0
	for range 250 {
		u := newUser(t, r, "a life", anyCart(t, r), 4+r.Intn(36), anyPads(r))
		for range 12 {
			u.act()
			u.life.wantThere(t, u.what, u.session, u.at)
		}
		for why, many := range u.whys {
			whys[why] += many
		}
		if u.life.end() > 20 {
			long++
		}
	}
	for why, many := range whys {
		if many < 20 {
			t.Errorf("only %d times Run has answered %d", many, why)
		}
	}
	if long < 60 {
		t.Errorf("only %d lives are long", long)
	}
}

func TestLivesByOneStep(t *testing.T) { // 25.9: forth over a whole life by single steps, and back by single steps
	r := rand.New(rand.NewSource(26))
	for range 60 {
		u := newUser(t, r, "by single steps", anyCart(t, r), 4+r.Intn(20), anyPads(r))
		for n := range u.life.end() {
			wantStep(t, u.session, 1, 1)
			if r.Intn(3) == 0 {
				u.life.wantThere(t, u.what, u.session, n+1)
			}
		}
		for n := u.life.end() - 1; n >= 0; n-- {
			wantBack(t, u.session, 1, 1, fine)
			if r.Intn(3) == 0 {
				u.life.wantThere(t, u.what, u.session, n)
			}
		}
		u.life.wantThere(t, u.what, u.session, 0)
	}
}

func TestAsPlayed(t *testing.T) { // 25.10, 25.11: beside a machine that plays the same gamepads by Frame
	r := rand.New(rand.NewSource(27))
	ends := map[api.Status]int{}
	for range 400 {
		c, budget, pads := anyCart(t, r), 4+r.Intn(60), anyPads(r)
		s := debugging(t, c, budget, pads...)
		for range r.Intn(4) {
			s.Step(r.Intn(30))
			n, _ := s.Count()
			s.Back(r.Intn(n + 1))
		}
		s.Step(math.MaxInt)
		_, frames := s.Count()
		m, _ := vm.New(c)
		spent := 0
		for _, pad := range pads[:frames] {
			o, e := m.Frame(pad, budget)
			if e != fine {
				t.Fatal(e)
			}
			spent += o.Spent
		}
		if !sameState(s.State(), m.State()) {
			t.Fatalf("25.10: State() = %v, want %v", s.State(), m.State())
		}
		for at := range 65536 {
			if got, want := s.Peek(uint16(at)), m.Memory().Load(uint16(at)); got != want {
				t.Fatalf("25.10: Peek(%#x) = %d, want %d", at, got, want)
			}
		}
		if got := sum(s.Profile()); got != spent {
			t.Fatalf("25.11: the profile's cycles are %d, want %d", got, spent)
		}
		status := s.State().Status
		if status == running && frames != len(pads) {
			t.Fatalf("25.10: %d frames of %d, and the machine is Running", frames, len(pads))
		}
		ends[status]++
	}
	for status := running; status <= faulted; status++ {
		if ends[status] < 20 {
			t.Errorf("only %d lives end with the status %d", ends[status], status)
		}
	}
}

func TestTwoSessions(t *testing.T) { // 'two sessions know nothing of one another': of one cartridge, side by side, with other gamepads
	r := rand.New(rand.NewSource(28))
	for range 25 {
		c := spare.Cart(anyCart(t, r))
		pads := []uint8{1, 2, 3, 4}
		one := newUser(t, r, "one of two", c, 15, pads)
		two := newUser(t, r, "two of two", c, 15, pads)
		three := newUser(t, r, "three", c, 31, pads[1:])
		for range 10 {
			one.act()
			two.act()
			three.act()
			for _, u := range []*user{one, two, three} {
				u.life.wantThere(t, u.what, u.session, u.at)
			}
		}
	}
}

func TestSessionsAtOnce(t *testing.T) { // R5: what a session answers does not hang on what others do at the same time
	c := compiled(t, writing(rand.New(rand.NewSource(29)), 12))
	pads := []uint8{5, 6, 7, 8}
	want := toldBy(c, pads, 3)
	var all sync.WaitGroup
	told := make([][]any, 8)
	for i := range told {
		all.Go(func() { told[i] = toldBy(c, pads, 3) })
	}
	all.Wait()
	for i := range told {
		if !reflect.DeepEqual(told[i], want) {
			t.Errorf("R5: session %d tells something else", i)
		}
	}
}

// toldBy is all that a session tells while it goes forth and back so many times.
func toldBy(c api.Cart, pads []uint8, times int) []any {
	s, e := debug.New(c, 25, pads)
	told := []any{e}
	s.Watch(0x8000, true)
	s.Watch(0xc000, true)
	s.Stop(c.Entry+2, true)
	for range times {
		for why := s.Run(); why != 0; why = s.Run() {
			steps, frames := s.Count()
			told = append(told, why, steps, frames, s.State(), s.Profile(), s.Peek(0x8000))
		}
		steps, _ := s.Count()
		n, e := s.Back(steps)
		told = append(told, steps, n, e, s.State(), s.Profile())
	}
	return told
}

func TestWhatIsDoneAgain(t *testing.T) { // 25.9: the same, many times
	r := rand.New(rand.NewSource(30))
	u := newUser(t, r, "many times", compiled(t, writing(r, 30)), 40, []uint8{1, 2, 3, 4, 5, 6})
	for range 150 {
		n := r.Intn(u.life.end() + 1)
		if n < u.at {
			wantBack(t, u.session, u.at-n, u.at-n, fine)
		} else {
			wantStep(t, u.session, n-u.at, n-u.at)
		}
		u.at = n
		u.life.wantThere(t, u.what, u.session, n)
	}
	if kept := u.session.Profile(); !slices.Equal(kept, listed(u.life.moments[u.at].profile)) {
		t.Errorf("25.9: Profile() = %v", kept)
	}
}
