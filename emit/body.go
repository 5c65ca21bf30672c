package emit

import (
	"wisp/api"
	"wisp/layout"
)

// cell is how many bytes a cell has.
const cell = 2

// maker makes code: the bytes so far, and where the code fields of names lie.
type maker struct {
	code []byte
	at   map[string]uint16
}

// codeOf makes the code of definitions that have those places. Cells are only ever put at the end, so that each definition comes to its place by itself.
func codeOf(defs []api.Def, places []layout.Place) []byte {
	m := &maker{at: fieldsOf(places)}
	for op := range uint16(api.Ops) {
		m.put(op)
	}
	for i, d := range defs {
		m.define(d, places[i])
	}
	return m.code
}

// thread is the address of the cell that holds the primitive's number.
func thread(op int) uint16 {
	return uint16(cell * op)
}

// here is the address behind all that is there.
func (m *maker) here() uint16 {
	return uint16(len(m.code))
}

func (m *maker) put(cells ...uint16) {
	for _, x := range cells {
		m.code = append(m.code, byte(x), byte(x>>8))
	}
}

func (m *maker) define(d api.Def, at layout.Place) {
	switch d.Kind {
	case api.DefWord:
		m.put(api.OpEnter)
		m.body(d.Body)
		m.put(thread(api.OpExit))
	case api.DefConstant:
		m.put(api.OpConst, d.Value)
	case api.DefVariable:
		m.put(api.OpConst, at.Ram)
	}
}

func (m *maker) body(nodes []api.Node) {
	for _, n := range nodes {
		m.node(n)
	}
}

func (m *maker) node(n api.Node) {
	switch n.Kind {
	case api.NodePrim:
		m.put(thread(n.Op))
	case api.NodeLit:
		m.put(thread(api.OpLit), n.Value)
	case api.NodeCall:
		m.put(m.at[n.Name])
	case api.NodeExit:
		m.put(thread(api.OpExit))
	case api.NodeIf:
		m.choice(n)
	case api.NodeDo:
		m.put(thread(api.OpDo))
		m.back(api.OpLoop, n.Then)
	case api.NodeUntil:
		m.back(api.OpZBranch, n.Then)
	case api.NodeAgain:
		m.back(api.OpBranch, n.Then)
	case api.NodeWhile:
		m.while(n)
	}
}

// open puts a branch whose target is not there yet. What it tells makes the branch lead to the place behind all that is there by then.
func (m *maker) open(op int) (lead func()) {
	m.put(thread(op), 0)
	operand := len(m.code) - cell
	return func() {
		target := m.here()
		m.code[operand], m.code[operand+1] = byte(target), byte(target>>8)
	}
}

// back puts a body, and a branch to where it begins.
func (m *maker) back(op int, body []api.Node) {
	begin := m.here()
	m.body(body)
	m.put(thread(op), begin)
}

func (m *maker) choice(n api.Node) {
	lead := m.open(api.OpZBranch)
	m.body(n.Then)
	if n.Has {
		over := m.open(api.OpBranch)
		lead()
		m.body(n.Else)
		lead = over
	}
	lead()
}

func (m *maker) while(n api.Node) {
	begin := m.here()
	m.body(n.Then)
	lead := m.open(api.OpZBranch)
	m.body(n.Else)
	m.put(thread(api.OpBranch), begin)
	lead()
}
