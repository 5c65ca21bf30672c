package tree

import (
	"wisp/api"
	"wisp/prim"
	"wisp/text"
)

// printer has a text as far as it is written: each word with a blank behind it.
type printer struct {
	text []byte
}

// put writes words; none any more, once the text is too long: it will not be told, however much is still to come.
func (p *printer) put(words ...string) {
	for _, word := range words {
		if len(p.text) <= api.MaxSource {
			p.text = append(append(p.text, word...), ' ')
		}
	}
}

// endLine makes the last word's blank the line's end.
func (p *printer) endLine() {
	p.text[len(p.text)-1] = '\n'
}

func (p *printer) def(d api.Def) {
	switch {
	case d.Kind == api.DefWord:
		p.put(":", d.Name)
		p.nodes(d.Body)
		p.put(";")
	case d.Kind == api.DefConstant:
		p.put(text.Decimal(d.Value), "constant", d.Name)
	case d.Value == cellSize:
		p.put("variable", d.Name)
	default:
		p.put(text.Decimal(d.Value), "buffer", d.Name)
	}
	p.endLine()
}

func (p *printer) bank(b api.Bank) {
	p.put(text.Decimal(uint16(b.Num)), "bank", "{")
	for _, one := range b.Data {
		p.put(text.Decimal(uint16(one)))
	}
	p.put("}")
	p.endLine()
}

func (p *printer) nodes(list []api.Node) {
	for _, n := range list {
		p.node(n)
	}
}

func (p *printer) node(n api.Node) {
	switch n.Kind {
	case api.NodePrim:
		row, _ := prim.Of(n.Op)
		p.put(row.Name)
	case api.NodeLit:
		p.put(text.Decimal(n.Value))
	case api.NodeCall:
		p.put(n.Name)
	case api.NodeExit:
		p.put("exit")
	case api.NodeIf:
		p.branches(n)
	case api.NodeWhile:
		p.around("begin", n.Then, "while")
		p.nodes(n.Else)
		p.put("repeat")
	case api.NodeUntil:
		p.around("begin", n.Then, "until")
	case api.NodeAgain:
		p.around("begin", n.Then, "again")
	case api.NodeDo:
		p.around("do", n.Then, "loop")
	}
}

func (p *printer) branches(n api.Node) {
	if !n.Has {
		p.around("if", n.Then, "then")
		return
	}
	p.around("if", n.Then, "else")
	p.nodes(n.Else)
	p.put("then")
}

// around writes nodes between two words.
func (p *printer) around(before string, list []api.Node, behind string) {
	p.put(before)
	p.nodes(list)
	p.put(behind)
}
