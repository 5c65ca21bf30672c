package infer_test

import (
	"math/rand"
	"slices"
	"strings"
	"testing"

	"wisp/api"
	"wisp/flow"
	"wisp/infer"
	"wisp/sources"
)

// rows are the cells that each primitive takes and leaves, by its number: DOC.md's table.
var rows = readRows()

func readRows() map[int][2]int {
	list := strings.Fields(sources.Effects + " const 0 1 lit 0 1 branch 0 0 zbranch 1 0 do 2 0 loop 0 0 exit 0 0 halt 0 0 >r 1 0 r> 0 1 r@ 0 1 i 0 1 j 0 1")
	names := strings.Fields(primitives)
	found := map[int][2]int{}
	for i := 0; i < len(list); i += 3 {
		found[1+slices.Index(names, list[i])] = [2]int{int(list[i+1][0] - '0'), int(list[i+2][0] - '0')}
	}
	return found
}

// stands is a state; the own cells are letters: L, I and S, the lowest first.
type stands struct {
	height int
	own    string
}

// model says 17.1 once more, as plainly as may be: what stands where is gone through from the beginning for each address.
type model struct {
	word          flow.Word
	known         map[uint16]api.Shape
	states        map[int]stands
	looked        map[int]bool
	in, data, ret int
	exits         []int
}

func newModel(w flow.Word, known map[uint16]api.Shape) *model {
	return &model{word: w, known: known, states: map[int]stands{(int(w.At) + 2) % 65536: {}}, looked: map[int]bool{}}
}

// modelled is what the model tells of a word.
func modelled(w flow.Word, known map[uint16]api.Shape) (api.Shape, api.Verdict) {
	return newModel(w, known).all()
}

func (m *model) all() (api.Shape, api.Verdict) {
	for at := m.next(); at >= 0; at = m.next() {
		m.looked[at] = true
		if e := m.look(at); e != fine {
			return api.Shape{}, api.Verdict{Err: e, At: uint16(at)}
		}
	}
	s := api.Shape{In: m.in, Data: m.data, Return: m.ret, Never: len(m.exits) == 0}
	if len(m.exits) > 0 {
		s.Out = m.in + m.exits[0]
	}
	if s.Out > 256 {
		return api.Shape{}, api.Verdict{Err: badDepth, At: m.word.At}
	}
	return s, api.Verdict{}
}

// next is the lowest address at which a state stands that has not been looked at; -1, if there is none.
func (m *model) next() int {
	lowest := -1
	for at := range m.states {
		if !m.looked[at] && (lowest < 0 || at < lowest) {
			lowest = at
		}
	}
	return lowest
}

func (m *model) look(at int) api.Errno {
	i := slices.IndexFunc(m.word.Instrs, func(x flow.Instr) bool { return int(x.At) == at })
	if i < 0 {
		return badFall
	}
	x := m.word.Instrs[i]
	if x.Op < 1 || x.Op > 63 {
		return badOpcode
	}
	called, is := m.known[x.Word]
	for _, number := range []int{called.In, called.Out, called.Data, called.Return} {
		is = is && number >= 0 && number <= 256
	}
	if x.Op == 1 && !is {
		return badCall
	}
	s := m.states[at]
	if !mayLook(x.Op, s.own) {
		return badReturn
	}
	takes, leaves := rows[x.Op][0], rows[x.Op][1]
	if x.Op == 1 {
		takes, leaves = called.In, called.Out
		m.data = max(m.data, s.height+called.Data)
		m.ret = max(m.ret, len(s.own)+1+called.Return)
	}
	m.in = max(m.in, takes-s.height)
	s.height = s.height - takes + leaves
	m.data = max(m.data, s.height)
	switch x.Op {
	case 55:
		s.own += "S"
	case 56:
		s.own = s.own[:len(s.own)-1]
	case 6:
		s.own += "LI"
	}
	m.ret = max(m.ret, len(s.own))
	if m.in > 256 || m.data > 256 || m.ret > 128 {
		return badDepth
	}
	return m.goOn(x, s, x.Op == 1 && called.Never)
}

// mayLook says 17.1's fourth fault.
func mayLook(op int, own string) bool {
	switch op {
	case 56, 57:
		return strings.HasSuffix(own, "S")
	case 58:
		return strings.HasSuffix(own, "I")
	case 59:
		return len(own) >= 3 && own[len(own)-3] == 'I'
	case 7:
		return strings.HasSuffix(own, "LI")
	case 8:
		return own == ""
	}
	return true
}

// goOn says 17.1's sixth fault.
func (m *model) goOn(x flow.Instr, s stands, never bool) api.Errno {
	type way struct {
		to uint16
		s  stands
	}
	var ways []way
	switch {
	case x.Op == 8:
		m.exits = append(m.exits, s.height)
		if s.height != m.exits[0] {
			return badJoin
		}
	case x.Op == 11 || never:
	case x.Op == 4:
		ways = []way{{x.Operand, s}}
	case x.Op == 5:
		ways = []way{{x.Next, s}, {x.Operand, s}}
	case x.Op == 7:
		ways = []way{{x.Operand, s}, {x.Next, stands{s.height, s.own[:len(s.own)-2]}}}
	default:
		ways = []way{{x.Next, s}}
	}
	for _, w := range ways {
		there, is := m.states[int(w.to)]
		if is && there != w.s && w.to <= x.At {
			return badLoop
		}
		if is && there != w.s {
			return badJoin
		}
		m.states[int(w.to)] = w.s
	}
	return fine
}

// wantModelled holds Shape of a word to the model, and tells the answer.
func wantModelled(t *testing.T, w flow.Word, known map[uint16]api.Shape) (api.Shape, api.Verdict) {
	t.Helper()
	want, v := modelled(w, known)
	s, u := infer.Shape(w, known)
	if s != want || u != v {
		t.Fatalf("Shape(%v, %v) = %+v, %v, want %+v, %v", w, known, s, u, want, v)
	}
	return s, u
}

func TestAgainstTheModel(t *testing.T) { // 17.1: any words
	m := newMaker(rand.New(rand.NewSource(171)))
	met, never := map[api.Errno]int{}, 0
	long := 0 // those without a fault that have several instructions and a branch
	for range 60000 {
		w, known := m.Any()
		s, v := wantModelled(t, w, known)
		met[v.Err]++
		if s.Never {
			never++
		}
		if v.Err == fine && len(w.Instrs) > 6 && len(m.open) > 1 {
			long++
		}
	}
	for _, e := range []api.Errno{fine, badJoin, badLoop, badReturn, badDepth, badOpcode, badFall, badCall} {
		if met[e] < 400 {
			t.Errorf("the error %d was met %d times: %v", e, met[e], met)
		}
	}
	if never < 1000 || long < 3000 {
		t.Errorf("%d never return, %d are long; all: %v", never, long, met)
	}
}

func TestEveryShortWord(t *testing.T) { // 17.1: four instructions, each way among them
	var all []flow.Instr
	for _, op := range []int{3, 13, 55, 56, 6, 8, 11} {
		all = append(all, flow.Instr{Op: op})
	}
	for _, op := range []int{4, 5, 7} {
		for to := range 4 {
			all = append(all, flow.Instr{Op: op, Operand: uint16(10 + 4*to)})
		}
	}
	met := map[api.Errno]int{}
	which := [4]int{}
	for {
		w := flow.Word{At: 8}
		for i, k := range which {
			x := all[k]
			x.At, x.Next = uint16(10+4*i), uint16(14+4*i)
			w.Instrs = append(w.Instrs, x)
		}
		_, v := wantModelled(t, w, nil)
		met[v.Err]++
		i := 0
		for i < 4 && which[i] == len(all)-1 {
			which[i] = 0
			i++
		}
		if i == 4 {
			break
		}
		which[i]++
	}
	for _, e := range []api.Errno{fine, badJoin, badLoop, badReturn, badFall} {
		if met[e] < 500 {
			t.Errorf("the error %d was met %d times: %v", e, met[e], met)
		}
	}
}
