package console_test

import (
	"bytes"
	"encoding/binary"
	"math/rand"
	"slices"
	"strconv"
	"strings"
	"sync/atomic"
	"testing"

	"wisp/api"
	"wisp/cart"
	"wisp/carts"
	"wisp/comp"
	"wisp/console"
	"wisp/layout"
	"wisp/meaning"
	"wisp/sources"
	"wisp/tree"
	"wisp/vm"
)

// inParts runs a test's part eight times at once, each with dice of its own.
func inParts(t *testing.T, seed int64, part func(t *testing.T, r *rand.Rand)) {
	t.Helper()
	t.Run("parts", func(t *testing.T) {
		for n := range int64(8) {
			t.Run("", func(t *testing.T) {
				t.Parallel()
				part(t, rand.New(rand.NewSource(seed+n)))
			})
		}
	})
}

// loaded is a console with that cartridge in it.
func loaded(t *testing.T, budget int, c api.Cart) *console.Console {
	t.Helper()
	x := made(t, budget)
	if e := x.Load(imageOfCart(t, c)); e != fine {
		t.Fatalf("19.2: Load of %v = %d", c, e)
	}
	return x
}

func TestSafe(t *testing.T) { // W1: what Check accepts is Faulted in no frame, of whatever budgets and gamepads
	var accepted, goOn, refused, faults atomic.Int32
	inParts(t, 1910, func(t *testing.T, r *rand.Rand) {
		for range 250 {
			inside := anyCart(t, r)
			c := loaded(t, carts.Budget(r), inside)
			safe := c.Check() == api.Verdict{}
			for range 3 {
				for _, o := range c.Play(anyPads(r, 25)...) {
					if safe && (o.Status != running && o.Status != halted || o.Fault != none) {
						t.Fatalf("W1: %v is accepted, and a frame of %d cycles is %d, %d", inside, c.Budget(), o.Status, o.Fault)
					}
				}
				status, _, _ := c.Status()
				switch {
				case safe && status == running:
					goOn.Add(1)
				case !safe && status == faulted:
					faults.Add(1)
				}
				c.Reset()
			}
			if safe {
				accepted.Add(1)
			} else {
				refused.Add(1)
			}
		}
	})
	if accepted.Load() < 400 || goOn.Load() < 500 || refused.Load() < 400 || faults.Load() < 500 {
		t.Errorf("%d are accepted, of whose lives %d go on; %d are not, of whose lives %d fault", accepted.Load(), goOn.Load(), refused.Load(), faults.Load())
	}
}

func TestTypableSourcesAreSafe(t *testing.T) { // W1: with the least budget, the greatest, and long lives
	r := rand.New(rand.NewSource(1911))
	srcs := sources.Typable()
	for range 60 {
		srcs = append(srcs, sources.NewLively(r).Program(3+r.Intn(8)))
	}
	for _, src := range srcs {
		for budget, frames := range map[int]int{4: 1200, 37: 200, 16384: 6} {
			c := playing(t, budget, src)
			if v := c.Check(); v != (api.Verdict{}) {
				t.Fatalf("%.200s: Check() = %v", src, v)
			}
			for range frames {
				if o := c.Frame(uint8(r.Intn(256))); o.Status == faulted || o.Status == noCart || o.Fault != none {
					t.Fatalf("W1: %.200s: %d, %d", src, o.Status, o.Fault)
				}
			}
			wantStatus(t, c, c.Machine().State().Status, none, frames)
		}
	}
}

// stepped plays a frame by Step alone, one behind the other, and tells its out and whether an instruction was cut off, which has not begun.
func stepped(m *vm.Machine, pad uint8, budget int) (o api.Out, cut bool) {
	m.Memory().Begin(pad)
	for yielded := false; m.State().Status == running && !yielded && o.Spent < budget; {
		p, _, _ := m.Look()
		if p.Cost > budget-o.Spent {
			cut = true
			break
		}
		m.Memory().At(o.Spent)
		if yielded = m.Step(); m.State().Status != faulted {
			o.Steps++
			o.Spent += p.Cost
		}
	}
	s := m.State()
	o.Status, o.Fault, o.Idle = s.Status, s.Fault, budget-o.Spent
	o.Screen, o.Tones = m.Memory().Screen(), m.Memory().Tones()
	return o, cut
}

func TestExact(t *testing.T) { // W2: of any cartridges, accepted or not: the budget, the steps, those that are cut off, and that they are those of Step
	var cuts, idle, yields atomic.Int32
	inParts(t, 1920, func(t *testing.T, r *rand.Rand) {
		for range 120 {
			inside := anyCart(t, r)
			budget := carts.Budget(r)
			c := loaded(t, budget, inside)
			m := machineOf(t, c.Cart())
			for range 25 {
				pad := uint8(r.Intn(256))
				at := m.State().At
				want, cut := stepped(m, pad, budget)
				o := c.Frame(pad)
				wantOut(t, "W2", o, want)
				if o.Spent+o.Idle != budget || o.Steps > o.Spent || o.Steps < 0 || o.Spent < 0 || o.Idle < 0 {
					t.Fatalf("W2: %v: %d steps, %d cycles and %d idle ones of %d", inside, o.Steps, o.Spent, o.Idle, budget)
				}
				wantStands(t, "W2", c, m)
				switch {
				case cut && m.State().Status == running:
					cuts.Add(1)
				case o.Status == running && o.Idle > 0:
					yields.Add(1)
				case o.Status != running && o.Steps == 0 && m.State().At == at:
					idle.Add(1)
				}
			}
		}
	})
	if cuts.Load() < 1000 || idle.Load() < 1000 || yields.Load() < 1000 {
		t.Errorf("%d frames are cut, %d idle, %d yield", cuts.Load(), idle.Load(), yields.Load())
	}
}

func TestWhatIsCutComesFirst(t *testing.T) { // W2: in the next frame
	c := playing(t, 5, ": main 7 3 / 49152 c! ;") // 2 2 | 4 | 2 2 | 2
	for n, want := range [][2]int{{2, 4}, {1, 4}, {2, 4}, {1, 2}} {
		o := c.Frame(0)
		if o.Steps != want[0] || o.Spent != want[1] || o.Idle != 5-want[1] {
			t.Errorf("W2: frame %d: %d steps, spent %d, idle %d", n, o.Steps, o.Spent, o.Idle)
		}
		if n == 3 && (o.Status != halted || o.Screen[0] != 2) {
			t.Errorf("W2: %d, the pixel %d", o.Status, o.Screen[0])
		}
	}
}

// meantOf is the meaning of a source that is compiled.
func meantOf(t *testing.T, src string) *meaning.Machine {
	t.Helper()
	p, at, e := tree.Parse(src)
	m, f := meaning.New(p)
	if e != fine || f != fine {
		t.Fatalf("the tests' own %.300s: %d at %v, %d", src, e, at, f)
	}
	return m
}

func TestMeant(t *testing.T) { // W3: the frames of a source are those of its meaning, out by out, faults and cycles too; of its image as well
	var ends [8]atomic.Int32
	var goOn, halts atomic.Int32
	inParts(t, 1930, func(t *testing.T, r *rand.Rand) {
		for range 100 {
			src := anySource(r)
			budget := carts.Budget(r)
			c, d, m := playing(t, budget, src), made(t, budget), meantOf(t, src)
			d.Load(imageOf(t, src))
			var o api.Out
			for _, pad := range anyPads(r, 30) {
				want, _ := m.Frame(pad, budget)
				o = c.Frame(pad)
				wantOut(t, "W3: "+src, o, want)
				wantOut(t, "W3: the image of "+src, d.Frame(pad), want)
			}
			if !sameImage(c.Machine().Memory().Image(), m.Memory().Image()) || !slices.Equal(c.Machine().State().Data, m.Data()) {
				t.Fatalf("W3: %s: another memory or another stack than is meant", src)
			}
			ends[o.Fault].Add(1)
			switch o.Status {
			case running:
				goOn.Add(1)
			case halted:
				halts.Add(1)
			}
		}
	})
	if goOn.Load() < 200 || halts.Load() < 50 || ends[1].Load() < 20 || ends[5].Load() < 5 {
		t.Errorf("%d go on, %d have halted, %d and %d with the faults 1 and 5", goOn.Load(), halts.Load(), ends[1].Load(), ends[5].Load())
	}
}

// spoiltSource is one with words changed, taken out or put in: few are well formed still.
func spoiltSource(r *rand.Rand) string {
	with := strings.Fields(": ; constant variable buffer bank { } if else then begin until while repeat again do loop exit main n0 nobody 1 256 16385 70000 -32769 \x00 ( \\ " + strings.Repeat("w", 32))
	words := strings.Fields(anySource(r))
	for range r.Intn(3) {
		words = sources.Changed(r, with[r.Intn(len(with))], words...)
	}
	return sources.Dressed(r, words...)
}

func TestAnySource(t *testing.T) { // W3: an error of form just if it is not well formed, else of a capacity just if one is passed; each with its place; then there is no cartridge
	r := rand.New(rand.NewSource(1939))
	met := map[api.Errno]int{}
	c := made(t, 60)
	hold := func(src string) {
		p, at, want := tree.Parse(src)
		if want == fine {
			_, _, _, at, want = layout.Of(p)
		}
		got, e := c.Source(src)
		if e != want || got != at {
			t.Fatalf("W3: Source(%.300q) = %v, %d, want %v, %d", src, got, e, at, want)
		}
		if met[e]++; e != fine {
			wantEmpty(t, "W3: a source that was refused", c)
			return
		}
		m := meantOf(t, src)
		for pad := range uint8(4) {
			o, _ := m.Frame(pad, 60)
			wantOut(t, "W3: "+src, c.Frame(pad), o)
		}
	}
	for range 1500 {
		hold(spoiltSource(r))
	}
	for src := range refusedSources() {
		hold(src)
	}
	for _, more := range []int{-1, 0, 1, 2} { // as much as there is room for, and one more
		hold(": main " + sources.Times(8126+more, "nop") + ";")
		hold(sources.Chain(511+more) + ": main ;")
		hold(strconv.Itoa(16380+more) + " buffer b variable x variable y : main ;")
	}
	for _, e := range []api.Errno{fine, 21, 91, 92, 93, 100, 101, 102, badWord, 104, tooEarly, 106, tooMany, longCode, greatRam} {
		if met[e] == 0 {
			t.Errorf("%d was not met", e)
		}
	}
}

func TestOneForm(t *testing.T) { // W4: of a cartridge that may be, its bytes are taken, and are told again; they decode to it
	r := rand.New(rand.NewSource(1940))
	var all []api.Cart
	for _, c := range carts.JustTaken() {
		all = append(all, c)
	}
	for range 300 {
		all = append(all, anyCart(t, r))
	}
	for _, inside := range all {
		c := loaded(t, 100, inside)
		b := c.Cart()
		back, e := cart.Decode(b)
		if e != fine || !bytes.Equal(b, imageOfCart(t, inside)) {
			t.Fatalf("W4: %v: other bytes are told, %d", inside, e)
		}
		if !bytes.Equal(back.Code, inside.Code) || back.Entry != inside.Entry || !slices.Equal(back.Effects, inside.Effects) || !sameBanks(back.Banks, inside.Banks) {
			t.Fatalf("W4: %v comes back as %v", inside, back)
		}
	}
}

func TestOtherBytes(t *testing.T) { // W4: all others give cart.Decode's error, and leave the console without a cartridge: its frames are NoCart, blank, all idle
	r := rand.New(rand.NewSource(1941))
	met := map[api.Errno]int{}
	c := made(t, 33)
	for n := range 3000 {
		b := imageOf(t, busy)
		if n%2 == 0 {
			b = imageOfCart(t, anyCart(t, r))
		}
		if r.Intn(2) == 0 {
			c.Load(b)
			c.Play(1, 2)
		}
		for range r.Intn(3) {
			b[r.Intn(min(len(b), 60))] ^= 1 << r.Intn(8)
		}
		switch r.Intn(4) {
		case 0: // a right sum of whatever else is wrong
			b = resealed(b, r.Intn(60)%len(b[:len(b)-4]), byte(r.Intn(20)))
		case 1:
			b = b[:r.Intn(len(b)+1)]
		case 2: // the first effect, if there is one, takes far too much
			at := int(binary.LittleEndian.Uint32(b[20:])) + 3
			if at < len(b)-4 {
				b = resealed(b, at, 5)
			}
		}
		inside, want := cart.Decode(b)
		e := c.Load(b)
		if met[e]++; e != want {
			t.Fatalf("19.2: Load = %d, want %d", e, want)
		}
		if e != fine {
			wantEmpty(t, "W4: bytes that were refused", c)
			continue
		}
		if back, _ := cart.Encode(inside); !bytes.Equal(c.Cart(), b) || !bytes.Equal(back, b) {
			t.Fatal("W4: bytes that decode are not those of their cartridge")
		}
		wantStands(t, "19.2", c, machineOf(t, b))
	}
	for _, e := range []api.Errno{fine, badMagic, badSum, badTable, badSection} {
		if met[e] < 10 {
			t.Errorf("%d was met %d times", e, met[e])
		}
	}
}

func TestCompiledSourcesAreImages(t *testing.T) { // W3, W4: a source that is compiled is in with comp.Compile's bytes
	r := rand.New(rand.NewSource(1942))
	for range 200 {
		src := anySource(r)
		b, _, e := comp.Compile(src)
		if c := playing(t, 100, src); e != fine || !bytes.Equal(c.Cart(), b) {
			t.Fatalf("19.3: %s: other bytes are in, %d", src, e)
		}
	}
}
