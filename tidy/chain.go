package tidy

import "wisp/api"

// item is a node in a chain. What it holds as a node's lists are chains too, so that however long they are they can stand in another's place at once.
type item struct {
	api.Node    // without its lists
	then, other chain
	prev, next  *item
	run         *item // where the items end, from this one on, that were settled in one list; nil, if none begin here
}

// chain is a list of nodes by its first and its last one.
type chain struct{ first, last *item }

// chainOf is the chain of a list, each of whose inner lists is settled.
func chainOf(list []api.Node) chain {
	var c chain
	for _, n := range list {
		x := &item{Node: n, then: settled(chainOf(n.Then)), other: settled(chainOf(n.Else))}
		x.Then, x.Else = nil, nil
		c = join(c, chain{x, x})
	}
	return c
}

// list is the chain's nodes as a list.
func (c chain) list() []api.Node {
	var list []api.Node
	for x := c.first; x != nil; x = x.next {
		n := x.Node
		n.Then, n.Else = x.then.list(), x.other.list()
		list = append(list, n)
	}
	return list
}

func (c chain) empty() bool { return c.first == nil }

// join is one chain behind another.
func join(one, two chain) chain {
	switch {
	case one.empty():
		return two
	case two.empty():
		return one
	}
	one.last.next, two.first.prev = two.first, one.last
	return chain{one.first, two.last}
}

// cut takes a chain apart behind an item; of nil ahead of all.
func (c chain) cut(behind *item) (one, two chain) {
	switch behind {
	case nil:
		return chain{}, c
	case c.last:
		return c, chain{}
	}
	next := behind.next
	behind.next, next.prev = nil, nil
	return chain{c.first, behind}, chain{next, c.last}
}

// rest is the chain without its first item. A run that began there begins behind it.
func (c chain) rest() chain {
	gone := c.first
	_, c = c.cut(gone)
	if gone.run != nil && gone.run != gone {
		c.first.run = gone.run
	}
	return c
}

// asRun is a chain that was settled: in another list it need not be gone through once more.
func (c chain) asRun() chain {
	if !c.empty() {
		c.first.run = c.last
	}
	return c
}

// alone is a chain of that item alone, and of what it holds.
func (x *item) alone() chain {
	return chainOfOne(item{Node: x.Node, then: x.then, other: x.other})
}

func chainOfOne(x item) chain { return chain{&x, &x} }

func number(x uint16, pos api.Pos) chain {
	return chainOfOne(item{Node: api.Node{Kind: api.NodeLit, Value: x, Pos: pos}})
}

func primitive(op int, pos api.Pos) chain {
	return chainOfOne(item{Node: api.Node{Kind: api.NodePrim, Op: op, Pos: pos}})
}

// structure is one with a body and no other.
func structure(kind int, then chain, pos api.Pos) chain {
	return chainOfOne(item{Node: api.Node{Kind: kind, Pos: pos}, then: then})
}

// after is the item behind; nil, if there is none.
func (x *item) after() *item {
	if x == nil {
		return nil
	}
	return x.next
}

// is tells whether there is an item, of that kind.
func (x *item) is(kind int) bool { return x != nil && x.Kind == kind }

func (x *item) isPrim(op int) bool { return x.is(api.NodePrim) && x.Op == op }

func (x *item) isNumber() bool { return x.is(api.NodeLit) }
