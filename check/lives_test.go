package check_test

import (
	"math/rand"
	"sync/atomic"
	"testing"

	"wisp/api"
	"wisp/carts"
	"wisp/check"
	"wisp/sources"
	"wisp/vm"
)

const running, halted, faulted = api.Status(1), api.Status(2), api.Status(3)

// life is one of a cartridge that was accepted, with the heights that its stacks may have and those that they have had.
type life struct {
	*vm.Machine
	cart      api.Cart
	data, ret int
	most      [2]int
}

func begun(t *testing.T, c api.Cart, data, ret int) *life {
	t.Helper()
	m, e := vm.New(c)
	if e != fine {
		t.Fatalf("vm.New: %d", e)
	}
	return &life{Machine: m, cart: c, data: data, ret: ret}
}

// hold holds the machine as it stands to 18.4 and 18.5.
func (l *life) hold(t *testing.T) vm.State {
	t.Helper()
	s := l.State()
	if s.Status != running && s.Status != halted || s.Fault != 0 {
		t.Fatalf("18.4: %v, which was accepted: status %d, fault %d at %d", l.cart, s.Status, s.Fault, s.At)
	}
	l.most = [2]int{max(l.most[0], len(s.Data)), max(l.most[1], len(s.Return))}
	if l.most[0] > l.data || l.most[1] > l.ret {
		t.Fatalf("18.5: %v: stacks of %v cells at %d, Depths says %d and %d", l.cart, l.most, s.At, l.data, l.ret)
	}
	return s
}

// frames plays so many, with any gamepads, of budgets that a function tells.
func (l *life) frames(t *testing.T, r *rand.Rand, many int, budget func() int) vm.State {
	t.Helper()
	for range many {
		o, e := l.Frame(uint8(r.Intn(256)), budget())
		if e != fine || o.Status != running && o.Status != halted || o.Fault != 0 {
			t.Fatalf("18.4: %v, which was accepted: %d, status %d, fault %d", l.cart, e, o.Status, o.Fault)
		}
		l.hold(t)
	}
	return l.hold(t)
}

// steps does so many instructions, with a frame's begin behind each yield, and now and then elsewhere, as where one is cut.
func (l *life) steps(t *testing.T, r *rand.Rand, many, cut int) vm.State {
	t.Helper()
	for range many {
		if l.Step() || r.Intn(cut) == 0 {
			l.Memory().Begin(uint8(r.Intn(256)))
		}
		if s := l.hold(t); s.Status != running {
			break
		}
	}
	return l.hold(t)
}

// faults tells whether a cartridge does within so many instructions.
func faults(t *testing.T, r *rand.Rand, c api.Cart, many int) bool {
	t.Helper()
	m, _ := vm.New(c)
	for range many {
		if m.Step() || r.Intn(8) == 0 {
			m.Memory().Begin(uint8(r.Intn(256)))
		}
		if x := m.State().Status; x != running {
			return x == faulted
		}
	}
	return false
}

func TestLives(t *testing.T) { // 18.4, 18.5, W1: of any cartridges that are accepted, by frames of any budgets, and by steps
	var accepted, refused, goOn, top, fault atomic.Int32
	t.Run("lives", func(t *testing.T) {
		for part := range int64(8) {
			t.Run("", func(t *testing.T) {
				t.Parallel()
				r := rand.New(rand.NewSource(1840 + part))
				for range 600 {
					c := anyCart(t, r)
					data, ret, v := check.Depths(c)
					if v != (api.Verdict{}) {
						refused.Add(1)
						if faults(t, r, c, 200) {
							fault.Add(1)
						}
						continue
					}
					accepted.Add(1)
					for range 2 {
						begun(t, c, data, ret).frames(t, r, 40, func() int { return carts.Budget(r) })
					}
					budget := carts.Budget(r)
					begun(t, c, data, ret).frames(t, r, 40, func() int { return budget })
					l := begun(t, c, data, ret)
					if s := l.steps(t, r, 600, 20); s.Status == running {
						goOn.Add(1)
					}
					if data > 1 && ret > 1 && l.most == [2]int{data, ret} {
						top.Add(1)
					}
				}
			})
		}
	})
	if accepted.Load() < 1200 || goOn.Load() < 600 || top.Load() < 200 {
		t.Errorf("%d are accepted, of which %d go on and %d come as high as Depths says", accepted.Load(), goOn.Load(), top.Load())
	}
	if fault.Load() < 500 {
		t.Errorf("%d are refused, of which only %d fault", refused.Load(), fault.Load())
	}
}

func TestLongLives(t *testing.T) { // 18.4, 18.5: of many frames, with the least budget and the greatest
	r := rand.New(rand.NewSource(1850))
	long := 0
	for range 60 {
		c := cartOf(t, sources.NewLively(r).Program(4+r.Intn(8)))
		data, ret, v := check.Depths(c)
		if v.Err != fine {
			t.Fatalf("18.7: %v", v)
		}
		begun(t, c, data, ret).frames(t, r, 20, func() int { return 16384 })
		if begun(t, c, data, ret).frames(t, r, 3000, func() int { return 4 }).Status == running {
			long++
		}
	}
	if long < 20 {
		t.Errorf("only %d go on", long)
	}
}

func TestStacksAsHighAsMayBe(t *testing.T) { // 18.3, 18.5: 256 and 128 cells, and lives that come up to there
	high := [2]int{}
	r := rand.New(rand.NewSource(1851))
	for _, src := range sources.Typable() {
		c := cartOf(t, src)
		data, ret, v := check.Depths(c)
		if v.Err != fine {
			t.Fatalf("18.7: %s: %v", brief(src), v)
		}
		l := begun(t, c, data, ret)
		l.steps(t, r, 3000, 10)
		high = [2]int{max(high[0], l.most[0]), max(high[1], l.most[1])}
	}
	if high != [2]int{256, 128} {
		t.Errorf("the stacks come up to %v", high)
	}
	for _, src := range []string{
		": main " + sources.Times(257, "1") + sources.Times(257, "drop") + ";",
		": main " + sources.Times(129, "1 >r") + sources.Times(129, "r> drop") + ";",
		sources.Chain(129) + ": main n128 ;",
	} {
		c := cartOf(t, src)
		if _, _, v := check.Depths(c); v.Err != badDepth || !faults(t, r, c, 3000) {
			t.Errorf("%s: %v", brief(src), v)
		}
	}
}

// wordAt is where the word lies that short code calls: it takes one cell, leaves one, and lifts both stacks.
const wordAt = 128

// short is the cartridge of a main of instructions, each by its thread, and, of a branch, by which instruction it leads to; the last one is an exit.
func short(list [][2]int) api.Cart {
	cells := append(carts.Threads(), 1, 110, 122, 112, 42, 16)
	entry := uint16(2 * len(cells))
	ats, at := []uint16{}, entry+2
	for _, x := range list {
		ats = append(ats, at)
		at += 2
		if x[0] == 8 || x[0] == 10 || x[0] == 14 {
			at += 2
		}
	}
	cells = append(cells, 1)
	ats = append(ats, at)
	for _, x := range list {
		cells = append(cells, uint16(x[0]))
		if x[0] == 8 || x[0] == 10 || x[0] == 14 {
			cells = append(cells, ats[x[1]])
		}
	}
	return api.Cart{Code: carts.Code(append(cells, 16)...), Entry: entry, Effects: []api.Effect{{At: wordAt, In: 1, Out: 1}, {At: entry}}}
}

// alphabet is what an instruction of short code may be, of so many: pad, drop, dup, >r, r>, r@, i, j, do, exit, halt, a call, and the branches to each of them and to the last exit.
func alphabet(many int) [][2]int {
	var all [][2]int
	for _, thread := range []int{122, 26, 24, 110, 112, 114, 116, 118, 12, 16, 22, wordAt} {
		all = append(all, [2]int{thread})
	}
	for to := range many + 1 {
		all = append(all, [2]int{8, to}, [2]int{10, to}, [2]int{14, to})
	}
	return all
}

func TestShortCode(t *testing.T) { // 18.4, 18.5: all mains of some instructions and three more behind them
	for _, first := range [][][2]int{{}, {{122}}, {{122}, {122}, {12}}, {{122}, {110}, {122}}} {
		t.Run("", func(t *testing.T) {
			t.Parallel()
			r := rand.New(rand.NewSource(1852))
			many := len(first) + 3
			letters := alphabet(many)
			accepted, fault := 0, 0
			for i := range len(letters) * len(letters) * len(letters) {
				list := append(append([][2]int{}, first...), letters[i%len(letters)], letters[i/len(letters)%len(letters)], letters[i/len(letters)/len(letters)])
				c := short(list)
				data, ret, v := check.Depths(c)
				if v.Err != fine {
					if i%5 == 0 && faults(t, r, c, 40) {
						fault++
					}
					continue
				}
				accepted++
				for range 3 {
					begun(t, c, data, ret).steps(t, r, 40, 2)
				}
			}
			if accepted < 50 || fault < 100 {
				t.Errorf("behind %v: %d are accepted, of some others %d fault", first, accepted, fault)
			}
		})
	}
}

func TestHeightsThatAreMet(t *testing.T) { // 18.3: of code without branches Depths says just how high the stacks come; and it is accepted just if it neither faults nor leaves a cell
	r := rand.New(rand.NewSource(1853))
	letters := alphabet(0)[:12]
	accepted, fault := 0, 0
	for range 60000 {
		var list [][2]int
		for range r.Intn(9) {
			list = append(list, letters[r.Intn(len(letters))])
		}
		c := short(list)
		data, ret, v := check.Depths(c)
		if v.Err == fine {
			l := begun(t, c, data, ret)
			if s := l.steps(t, r, 100, 5); s.Status != halted || l.most != [2]int{data, ret} {
				t.Fatalf("18.3: %v: status %d, stacks of %v cells, Depths says %d and %d", list, s.Status, l.most, data, ret)
			}
			accepted++
			continue
		}
		m, _ := vm.New(c)
		for range 100 {
			m.Step()
		}
		s := m.State()
		if s.Status == faulted {
			fault++
		} else if s.Status != halted || len(s.Data) == 0 {
			t.Fatalf("18.1: %v is refused with %v, and ends so: %+v", list, v, s)
		}
	}
	if accepted < 5000 || fault < 5000 {
		t.Errorf("%d are accepted, %d fault", accepted, fault)
	}
}
