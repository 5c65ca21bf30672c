package flow

import (
	"maps"
	"slices"

	"wisp/api"
)

// telling is how far the words of a list have been told.
type telling struct {
	words   []Word
	lacks   []int            // of each word, how many of its calls have not been told
	callers map[uint16][]int // by what they call: which words do, once for each call
	left    map[uint16]int   // how many words of an At have not been told
	ready   *todo            // the Ats of words that lack nothing
}

func newTelling(words []Word) *telling {
	t := &telling{words: words, callers: map[uint16][]int{}, left: map[uint16]int{}, ready: newTodo()}
	for i, w := range words {
		t.left[w.At]++
		t.lacks = append(t.lacks, len(w.Calls))
		for _, called := range w.Calls {
			t.callers[called] = append(t.callers[called], i)
		}
		if len(w.Calls) == 0 {
			t.ready.add(w.At)
		}
	}
	return t
}

// all tells the words' Ats, each behind those that the word calls.
func (t *telling) all() ([]uint16, api.Verdict) {
	var order []uint16
	for t.ready.some() {
		at := t.ready.take()
		order = append(order, at)
		t.tell(at)
	}
	if len(t.left) > 0 {
		least := slices.Min(slices.Collect(maps.Keys(t.left)))
		return nil, api.Verdict{Err: api.ErrCall, At: least}
	}
	return order, api.Verdict{}
}

// tell tells one word of that At, whichever: of two the other one is left, and nothing else hangs on which it is.
func (t *telling) tell(at uint16) {
	t.left[at]--
	if t.left[at] == 0 {
		delete(t.left, at)
	}
	for _, i := range t.callers[at] {
		t.lacks[i]--
		if t.lacks[i] == 0 {
			t.ready.add(t.words[i].At)
		}
	}
}
