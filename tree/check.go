package tree

import (
	"wisp/api"
	"wisp/prim"
)

// checker looks at definitions one behind the other.
type checker struct {
	ahead map[string]int // the names of the definitions ahead, and which they are
}

func checkDefs(defs []api.Def) api.Errno {
	c := checker{map[string]int{}}
	for i, d := range defs {
		if e := c.def(d); e != api.OK {
			return e
		}
		c.ahead[d.Name] = i
	}
	return api.OK
}

func (c checker) def(d api.Def) api.Errno {
	_, twice := c.ahead[d.Name]
	switch {
	case !fieldsFit(d):
		return api.ErrTop
	case !isName(d.Name):
		return api.ErrName
	case twice:
		return api.ErrTwice
	case d.Kind == api.DefVariable && d.Value > api.MaxRam:
		return api.ErrValue
	}
	return c.nodes(d.Body, inside{})
}

// fieldsFit tells whether a definition's kind is one, and uses all fields that are not zero.
func fieldsFit(d api.Def) bool {
	switch d.Kind {
	case api.DefWord:
		return d.Value == 0
	case api.DefConstant, api.DefVariable:
		return len(d.Body) == 0
	}
	return false
}

// inside is where a node stands: in so many structures, and whether one of them is a do.
type inside struct {
	deep int
	do   bool
}

func (c checker) nodes(list []api.Node, in inside) api.Errno {
	for _, n := range list {
		if e := c.node(n, in); e != api.OK {
			return e
		}
	}
	return api.OK
}

func (c checker) node(n api.Node, in inside) api.Errno {
	switch {
	case !usesAll(n):
		return api.ErrTop
	case !c.wordFits(n):
		return api.ErrWord
	case n.Kind == api.NodeExit && in.do:
		return api.ErrLeave
	case isStructure(n) && in.deep == api.MaxNest:
		return api.ErrDeep
	}
	in = inside{in.deep + 1, in.do || isDo(n)}
	if e := c.nodes(n.Then, in); e != api.OK {
		return e
	}
	return c.nodes(n.Else, in)
}

// wordFits tells whether a node's primitive has a name in a source, and whether its name is known where it stands.
func (c checker) wordFits(n api.Node) bool {
	switch n.Kind {
	case api.NodePrim:
		p, _ := prim.Of(n.Op)
		return p.Name != ""
	case api.NodeCall:
		_, is := c.ahead[n.Name]
		return is
	}
	return true
}

func isStructure(n api.Node) bool {
	return api.NodeIf <= n.Kind && n.Kind <= api.NodeDo
}

// usesAll tells whether a node's kind is one, and uses all fields that are not zero.
func usesAll(n api.Node) bool {
	switch n.Kind {
	case api.NodePrim:
		n.Op = 0
	case api.NodeLit:
		n.Value = 0
	case api.NodeCall:
		n.Name = ""
	case api.NodeIf:
		n.Then = nil
		if n.Has {
			n.Else, n.Has = nil, false
		}
	case api.NodeWhile:
		n.Then, n.Else = nil, nil
	case api.NodeUntil, api.NodeAgain, api.NodeDo:
		n.Then = nil
	case api.NodeExit:
	default:
		return false
	}
	return n.Op == 0 && n.Value == 0 && n.Name == "" && len(n.Then) == 0 && len(n.Else) == 0 && !n.Has
}

func checkBanks(banks []api.Bank) api.Errno {
	last := -1
	for _, b := range banks {
		switch {
		case b.Num < 0 || b.Num >= api.Banks || len(b.Data) > api.MaxBank:
			return api.ErrValue
		case b.Num <= last:
			return api.ErrTwice
		}
		last = b.Num
	}
	return api.OK
}
