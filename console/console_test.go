package console_test

import (
	"bytes"
	"math"
	"reflect"
	"slices"
	"strings"
	"testing"

	"wisp/api"
	"wisp/cart"
	"wisp/carts"
	"wisp/check"
	"wisp/comp"
	"wisp/console"
	"wisp/sources"
)

// Errors, statuses and faults by the document's numbers, not by api's names: a slip in one of the two must show.
const (
	fine       = api.Errno(0)
	noHandle   = api.Errno(1)
	badInput   = api.Errno(2)
	badMagic   = api.Errno(70)
	badSum     = api.Errno(71)
	badTable   = api.Errno(72)
	badSection = api.Errno(73)
	badWord    = api.Errno(103)
	tooEarly   = api.Errno(105)
	noMain     = api.Errno(107)
	tooMany    = api.Errno(110)
	longCode   = api.Errno(111)
	greatRam   = api.Errno(112)
	badEffect  = api.Errno(154)
	badCall    = api.Errno(163)
	badBudget  = api.Errno(190)

	noCart, running, halted, faulted = api.Status(0), api.Status(1), api.Status(2), api.Status(3)

	none, under, over = api.Fault(0), api.Fault(1), api.Fault(2)
)

// greatestCount is how many frames a console can count.
const greatestCount = 9223372036854775807

func made(t *testing.T, budget int) *console.Console {
	t.Helper()
	c, e := console.New(budget)
	if c == nil || e != fine {
		t.Fatalf("19.1: New(%d) = %t, %d", budget, c != nil, e)
	}
	return c
}

// wantSource puts a source in that is taken.
func wantSource(t *testing.T, c *console.Console, src string) {
	t.Helper()
	if at, e := c.Source(src); e != fine || at != (api.Pos{}) {
		t.Fatalf("19.3: Source(%.300s) = %v, %d", src, at, e)
	}
}

// playing is a console with a source in it.
func playing(t *testing.T, budget int, src string) *console.Console {
	t.Helper()
	c := made(t, budget)
	wantSource(t, c, src)
	return c
}

// imageOf is a source's bytes, and imageOfCart a cartridge's.
func imageOf(t *testing.T, src string) []byte {
	t.Helper()
	b, at, e := comp.Compile(src)
	if e != fine {
		t.Fatalf("the tests' own %.300s: %d at %v", src, e, at)
	}
	return b
}

func imageOfCart(t *testing.T, c api.Cart) []byte {
	t.Helper()
	b, e := cart.Encode(c)
	if e != fine {
		t.Fatalf("the tests' own %v: %d", c, e)
	}
	return b
}

func wantStatus(t *testing.T, c *console.Console, status api.Status, fault api.Fault, frames int) {
	t.Helper()
	if s, f, n := c.Status(); s != status || f != fault || n != frames {
		t.Fatalf("19.6: Status() = %d, %d, %d, want %d, %d, %d", s, f, n, status, fault, frames)
	}
}

func sameOut(got, want api.Out) bool {
	return got.Status == want.Status && got.Fault == want.Fault && got.Steps == want.Steps && got.Spent == want.Spent && got.Idle == want.Idle &&
		bytes.Equal(got.Screen, want.Screen) && slices.Equal(got.Tones, want.Tones)
}

func wantOut(t *testing.T, what string, got, want api.Out) {
	t.Helper()
	if !sameOut(got, want) {
		pixels := bytes.Equal(got.Screen, want.Screen)
		got.Screen, want.Screen = nil, nil
		t.Fatalf("%s: %v, want %v (the pixels are the same: %t)", what, got, want, pixels)
	}
}

// blank is the frame of a console without a cartridge.
func blank(budget int) api.Out {
	return api.Out{Idle: budget, Screen: make([]byte, 3072)}
}

// wantEmpty holds a console to what is said of one without a cartridge.
func wantEmpty(t *testing.T, what string, c *console.Console) {
	t.Helper()
	for pad := range uint8(3) {
		wantOut(t, what+": 19.5", c.Frame(pad), blank(c.Budget()))
		wantStatus(t, c, noCart, none, 0)
	}
	if v := c.Check(); v != (api.Verdict{Err: noHandle}) {
		t.Errorf("%s: 19.4: Check() = %v", what, v)
	}
	if len(c.Cart()) != 0 || c.Machine() != nil {
		t.Errorf("%s: 19.6: Cart() = %v, there is a machine: %t", what, c.Cart(), c.Machine() != nil)
	}
	c.Reset()
	wantStatus(t, c, noCart, none, 0)
	wantOut(t, what+": behind Reset", c.Frame(9), blank(c.Budget()))
}

// wantFrame plays a frame, and holds it to numbers that stand in the test.
func wantFrame(t *testing.T, c *console.Console, status api.Status, fault api.Fault, steps, spent int) {
	t.Helper()
	o := c.Frame(0)
	if o.Status != status || o.Fault != fault || o.Steps != steps || o.Spent != spent || o.Idle != c.Budget()-spent || len(o.Screen) != 3072 {
		t.Fatalf("19.5: Frame: %d, %d, steps %d, spent %d, idle %d; want %d, %d, steps %d, spent %d", o.Status, o.Fault, o.Steps, o.Spent, o.Idle, status, fault, steps, spent)
	}
}

func TestExample1(t *testing.T) {
	if c, e := console.New(3); c != nil || e != badBudget {
		t.Errorf("New(3) = %t, %d", c != nil, e)
	}
	c := made(t, 100)
	wantStatus(t, c, noCart, none, 0)
	wantOut(t, "Frame(0)", c.Frame(0), blank(100))
	wantEmpty(t, "New(100)", c)
}

func TestExample2(t *testing.T) {
	c := playing(t, 100, ": main 7 drop ;")
	if v := c.Check(); v != (api.Verdict{}) {
		t.Errorf("Check() = %v", v)
	}
	wantFrame(t, c, halted, none, 3, 5)
	wantFrame(t, c, halted, none, 0, 0)
	wantStatus(t, c, halted, none, 2)
}

func TestExample3(t *testing.T) {
	c := playing(t, 100, ": main drop ;")
	if v := c.Check(); v != (api.Verdict{Err: badEffect, At: 128}) {
		t.Errorf("Check() = %v", v)
	}
	for range 2 {
		wantStatus(t, c, running, none, 0)
		for range 50 {
			wantFrame(t, c, faulted, under, 0, 0)
		}
		wantStatus(t, c, faulted, under, 50)
		c.Reset()
	}
}

func TestExample4(t *testing.T) {
	c := playing(t, 100, ": main begin 1 8 0 plot yield 1 again ;")
	if v := c.Check(); v.Err == fine {
		t.Error("it is accepted")
	}
	for n := range 254 {
		if o := c.Frame(0); o.Status != running || len(c.Machine().State().Data) != n {
			t.Fatalf("frame %d: %d, %d, and %d cells", n, o.Status, o.Fault, len(c.Machine().State().Data))
		}
	}
	// 254 cells, with that of the turn's end; the third of plot's three has no room.
	wantFrame(t, c, faulted, over, 4, 8)
	wantFrame(t, c, faulted, over, 0, 0)
	wantStatus(t, c, faulted, over, 256)
}

func TestExample5(t *testing.T) {
	c := made(t, 100)
	for _, ahead := range lives() {
		ahead.put(t, c)
		if e := c.Load(nil); e != badMagic {
			t.Errorf("Load(nil) = %d", e)
		}
		wantStatus(t, c, noCart, none, 0)
		wantEmpty(t, "Load(nil) behind "+ahead.what, c)
	}
}

func TestNew(t *testing.T) { // 19.1
	for _, budget := range []int{4, 5, 100, 16383, 16384} {
		c := made(t, budget)
		if c.Budget() != budget {
			t.Errorf("19.6: Budget() = %d, want %d", c.Budget(), budget)
		}
		wantEmpty(t, "New", c)
		wantSource(t, c, ": main begin again ;")
		wantFrame(t, c, running, none, budget/2, budget/2*2)
	}
	for _, budget := range []int{3, 2, 1, 0, -1, -4, -16384, 16385, 16386, 65536, math.MinInt, math.MaxInt} {
		if c, e := console.New(budget); c != nil || e != badBudget {
			t.Errorf("19.1: New(%d) = %t, %d", budget, c != nil, e)
		}
	}
}

// ahead is something that a console has been through.
type ahead struct {
	what string
	put  func(t *testing.T, c *console.Console)
}

// lives are what may be in a console ahead of a call.
func lives() []ahead {
	source := func(src string, frames int) func(t *testing.T, c *console.Console) {
		return func(t *testing.T, c *console.Console) {
			t.Helper()
			wantSource(t, c, src)
			c.Play(make([]uint8, frames)...)
		}
	}
	return []ahead{
		{"nothing", func(_ *testing.T, c *console.Console) { c.Eject() }},
		{"a new one", source(busy, 0)},
		{"one that runs", source(busy, 5)},
		{"one that has halted", source(": main 5 5 7 plot ;", 5)},
		{"one that has faulted", source(": main 5 5 7 plot drop ;", 5)},
		{"one that was refused", func(_ *testing.T, c *console.Console) { c.Load([]byte{1}) }},
	}
}

// busy is a source that changes all that a program can, and whose frames are all unlike; the gamepad is seen in them.
const busy = `
variable v 40 buffer b
: dot v @ 63 and v @ 6 rshift 47 and pad plot ;
: main 2 bank
  begin
    pad v +! 7 v +! dot
    16384 c@ 1+ dup 16384 c! 3 4 rot plot
    pad b c! b c@ 5 6 rot plot
    v @ 9 tone 65288 c@ 1 2 rot plot
    3 0 do v @ i + dup >r b c! r> 63 and i 20 + 5 plot loop
    yield
  again ;
2 bank { 5 6 } 9 bank { }
`

func TestLoad(t *testing.T) { // 19.2: what is taken: a new machine, no frames played, whatever was in
	images := map[string][]byte{"busy": imageOf(t, busy), "drop": imageOf(t, ": main drop ;")}
	for what, c := range carts.JustTaken() {
		images[what] = imageOfCart(t, c)
	}
	for what, b := range images {
		inside, _ := cart.Decode(b)
		for _, ahead := range lives() {
			c := made(t, 64)
			ahead.put(t, c)
			if e := c.Load(b); e != fine {
				t.Fatalf("19.2: Load of %s behind %s = %d", what, ahead.what, e)
			}
			wantStatus(t, c, running, none, 0)
			if !bytes.Equal(c.Cart(), b) {
				t.Fatalf("19.6: Cart() of %s behind %s is not what was put in", what, ahead.what)
			}
			if v, want := c.Check(), check.Check(inside); v != want {
				t.Fatalf("19.4: Check() of %s = %v, want %v", what, v, want)
			}
			m := machineOf(t, b)
			wantStands(t, what+" behind "+ahead.what, c, m)
			for pad := range uint8(5) {
				o, _ := m.Frame(pad, 64)
				wantOut(t, what+" behind "+ahead.what, c.Frame(pad), o)
			}
		}
	}
}

// refusedImages are bytes that are no cartridge's, each with its error.
func refusedImages(t *testing.T) map[string]refusedImage {
	t.Helper()
	b := imageOf(t, busy)
	turned := bytes.Clone(b)
	turned[40] ^= 1
	magic := bytes.Clone(b)
	magic[0] ^= 1
	version := bytes.Clone(b)
	version[4] = 2
	return map[string]refusedImage{
		"nothing":          {nil, badMagic},
		"no bytes":         {[]byte{}, badMagic},
		"WISP":             {[]byte("WISP"), badMagic},
		"a source":         {[]byte(busy), badMagic},
		"another magic":    {magic, badMagic},
		"another version":  {version, badMagic},
		"a byte less":      {b[:len(b)-1], badSum},
		"a byte more":      {append(bytes.Clone(b), 0), badSum},
		"a byte turned":    {turned, badSum},
		"too many bytes":   {append(bytes.Clone(b), make([]byte, 524288)...), badSum},
		"one section":      {resealed(b, 5, 1), badTable},
		"another kind":     {resealed(b, 8, 2), badTable},
		"code of one byte": {oddCode(), badSection},
	}
}

type refusedImage struct {
	bytes []byte
	e     api.Errno
}

func TestRefusedLoads(t *testing.T) { // 19.2: cart.Decode's error, and no cartridge any more, whatever was in
	for what, x := range refusedImages(t) {
		if _, e := cart.Decode(x.bytes); e != x.e {
			t.Fatalf("the tests' own %s: %d, want %d", what, e, x.e)
		}
		for _, ahead := range lives() {
			c := made(t, 777)
			ahead.put(t, c)
			if e := c.Load(x.bytes); e != x.e {
				t.Errorf("19.2: Load of %s behind %s = %d, want %d", what, ahead.what, e, x.e)
			}
			wantEmpty(t, what+" behind "+ahead.what, c)
			wantSource(t, c, ": main 7 drop ;")
			wantFrame(t, c, halted, none, 3, 5)
		}
	}
}

func TestSource(t *testing.T) { // 19.3: its bytes are in, as of Load
	for _, src := range []string{": main ;", busy, ": main drop ;", ": main begin 1 again ;", ": main ; 15 bank { 1 2 3 }", strings.Repeat(" ", 65536-8) + ": main ;"} {
		for _, ahead := range lives() {
			c, d := made(t, 90), made(t, 90)
			ahead.put(t, c)
			wantSource(t, c, src)
			b := imageOf(t, src)
			if d.Load(b); !bytes.Equal(c.Cart(), b) {
				t.Fatalf("19.3: Cart() of %.100s is not its bytes", src)
			}
			wantStatus(t, c, running, none, 0)
			for pad := range uint8(5) {
				wantOut(t, src, c.Frame(pad), d.Frame(pad))
			}
			wantStands(t, src, c, d.Machine())
		}
	}
}

// refusedSources are texts that are not compiled, each with its error and the place.
func refusedSources() map[string]refusedSource {
	return map[string]refusedSource{
		"":                                     {1, 1, noMain},
		": main":                               {1, 7, tooEarly},
		": main nobody ;":                      {1, 8, badWord},
		": main ;\n : a\n  nobody ;":           {3, 3, badWord},
		"\n\n: other ;":                        {3, 10, noMain},
		"16384 buffer a\nvariable b\n: main ;": {2, 10, greatRam},
		": main " + sources.Times(8127, "dup") + ";":              {1, 3, longCode},
		": a " + sources.Times(8127, "dup") + "; : main nobody ;": {1, 4 + 4*8127 + 10, badWord},
		sources.Times(513, ": a ;"):                               {1, 9, 102},
		sources.Chain(512) + "\n: main ;":                         {2, 3, tooMany},
		strings.Repeat(" ", 65536-7) + ": main ;":                 {1, 1, 90},
		": main \x00 ;": {1, 8, 91},
		": main ( ;":    {1, 8, 92},
		": main " + strings.Repeat("w", 32) + " ;":         {1, 8, 93},
		": main 70000 drop ;":                              {1, 8, 21},
		": main if ;":                                      {1, 11, 104},
		": main 1 0 do exit loop ;":                        {1, 15, 108},
		": main " + sources.Times(33, "begin") + "again ;": {1, 8 + 6*32, 109},
		"7 ; : main ;":                                     {1, 3, 100},
		"; : main ;":                                       {1, 1, 100},
		": 7 ; : main ;":                                   {1, 3, 101},
		"5 bank { 1 256 } : main ;":                        {1, 12, 106},
		"1 bank { } 1 bank { } : main ;\n":                 {1, 12, 102},
	}
}

type refusedSource struct {
	line, col int
	e         api.Errno
}

func TestRefusedSources(t *testing.T) { // 19.3: comp.Compile's error with its place, and no cartridge any more, whatever was in
	for src, want := range refusedSources() {
		at := api.Pos{Line: want.line, Col: want.col}
		if _, p, e := comp.Compile(src); p != at || e != want.e {
			t.Errorf("the tests' own %.100q: %d at %v, want %d at %v", src, e, p, want.e, at)
			continue
		}
		for _, ahead := range lives() {
			c := made(t, 4)
			ahead.put(t, c)
			if p, e := c.Source(src); p != at || e != want.e {
				t.Errorf("19.3: Source(%.100q) behind %s = %v, %d, want %v, %d", src, ahead.what, p, e, at, want.e)
			}
			wantEmpty(t, src[:min(len(src), 50)]+" behind "+ahead.what, c)
		}
	}
}

func TestCheck(t *testing.T) { // 19.4: of the cartridge, wherever its machine stands; nothing is changed by it
	for src, want := range map[string]api.Verdict{
		": main ;":                        {},
		busy:                              {},
		": main 1 ;":                      {Err: badEffect, At: 128},
		": main drop ;":                   {Err: badEffect, At: 128},
		": sq dup * ; : main 5 sq drop ;": {},
		": sq dup * ; : main 5 sq ;":      {Err: badEffect, At: 136},
		": a r> ; : main a ;":             {Err: 152, At: 130},
		": main begin 1 8 0 plot yield 1 again ;": {Err: 151, At: 150},
	} {
		c := playing(t, 50, src)
		d := playing(t, 50, src)
		for pad := range uint8(6) {
			if v := c.Check(); v != want {
				t.Errorf("19.4: %s: Check() = %v, want %v", src, v, want)
			}
			wantOut(t, src, c.Frame(pad), d.Frame(pad))
		}
		wantStands(t, src, c, d.Machine())
		if c.Eject(); c.Check() != (api.Verdict{Err: noHandle}) {
			t.Errorf("19.4: behind Eject: Check() = %v", c.Check())
		}
	}
	// A word that calls itself, which no source says; and what was declared matters, not only the code.
	c := made(t, 50)
	c.Load(imageOfCart(t, carts.Of(128, 1, 128, 16)))
	if v := c.Check(); v != (api.Verdict{Err: badCall, At: 128}) {
		t.Errorf("19.4: Check() = %v", v)
	}
	inside, _ := cart.Decode(imageOf(t, ": sq dup * ; : main 5 sq drop ;"))
	inside.Effects[0].Out = 2
	c.Load(imageOfCart(t, inside))
	if v := c.Check(); v != (api.Verdict{Err: badEffect, At: 128}) {
		t.Errorf("19.4: Check() = %v", v)
	}
	wantFrame(t, c, halted, none, 7, 13)
}

func TestNilConsole(t *testing.T) { // R1, 19.2 to 19.6: every call
	var c *console.Console
	for _, b := range [][]byte{nil, {1}, imageOf(t, busy)} {
		if e := c.Load(b); e != noHandle {
			t.Errorf("Load = %d", e)
		}
	}
	for _, src := range []string{"", ": main ;", ": main nobody ;"} {
		if at, e := c.Source(src); e != noHandle || at != (api.Pos{}) {
			t.Errorf("Source(%q) = %v, %d", src, at, e)
		}
	}
	if v := c.Check(); v != (api.Verdict{Err: noHandle}) {
		t.Errorf("Check() = %v", v)
	}
	for _, pad := range []uint8{0, 1, 255} {
		if o := c.Frame(pad); !reflect.DeepEqual(o, api.Out{}) {
			t.Errorf("Frame(%d) = %v", pad, o)
		}
	}
	if outs := c.Play(); len(outs) != 0 {
		t.Errorf("Play() = %v", outs)
	}
	if outs := c.Play(1, 2, 255); !reflect.DeepEqual(outs, make([]api.Out, 3)) {
		t.Errorf("Play(1, 2, 255) = %v", outs)
	}
	c.Reset()
	c.Eject()
	wantStatus(t, c, noCart, none, 0)
	if c.Budget() != 0 || len(c.Cart()) != 0 || c.Copy() != nil || c.Machine() != nil {
		t.Errorf("%d, %v, %t, %t", c.Budget(), c.Cart(), c.Copy() != nil, c.Machine() != nil)
	}
}
