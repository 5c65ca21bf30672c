package flow

import "container/heap"

// todo is addresses that are to be taken, the least one first, and each but once, however often it is added.
type todo struct {
	waits map[uint16]struct{} // what is still to be taken
	taken map[uint16]struct{}
	least addresses // a heap of what waits: to go through all of it for each that is taken would be slow
}

func newTodo(first ...uint16) *todo {
	t := &todo{waits: map[uint16]struct{}{}, taken: map[uint16]struct{}{}}
	t.add(first...)
	return t
}

func (t *todo) some() bool { return len(t.waits) > 0 }

func (t *todo) add(list ...uint16) {
	for _, at := range list {
		_, waits := t.waits[at]
		_, taken := t.taken[at]
		if waits || taken {
			continue
		}
		t.waits[at] = struct{}{}
		heap.Push(&t.least, at)
	}
}

// take is asked only where there are some.
func (t *todo) take() uint16 {
	at := t.least[0]
	heap.Pop(&t.least)
	delete(t.waits, at)
	t.taken[at] = struct{}{}
	return at
}

// addresses are ordered by heap, which calls these methods.
type addresses []uint16

func (a addresses) Len() int           { return len(a) }
func (a addresses) Less(i, j int) bool { return a[i] < a[j] }
func (a addresses) Swap(i, j int)      { a[i], a[j] = a[j], a[i] }

// Push and Pop work on the last one.
func (a *addresses) Push(x any) { *a = append(*a, x.(uint16)) }

func (a *addresses) Pop() any {
	last := len(*a) - 1
	x := (*a)[last]
	*a = (*a)[:last]
	return x
}
