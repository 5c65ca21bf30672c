package debug

import (
	"maps"
	"slices"

	"wisp/api"
)

// cellSize is how many bytes a word's code field has.
const cellSize = 2

// profile is what has been spent in the words that have been begun, by their code fields, and in which of them the machine is.
type profile struct {
	words map[uint16]spending
	in    *call
}

// spending is how often a word has been begun, and the cycles of the instructions that were done in it.
type spending struct{ begun, cycles int }

// call is a word that was begun, and the call out of which it was. Nobody changes one: what undoes a step keeps it.
type call struct {
	word uint16
	by   *call
}

// newProfile is one in which main has been begun.
func newProfile(entry uint16) profile {
	return profile{words: map[uint16]spending{entry: {begun: 1}}, in: &call{word: entry}}
}

// spend counts an instruction for the word that it was done in, and goes with it into a word that it calls, or out of one. x is what vm's Look tells of it.
func (p *profile) spend(op int, x uint16, cost int) {
	p.add(p.in.word, spending{cycles: cost})
	switch {
	case op == api.OpEnter:
		p.in = &call{word: x - cellSize, by: p.in}
		p.add(p.in.word, spending{begun: 1})
	case op == api.OpExit && p.in.by != nil:
		p.in = p.in.by
	}
}

// unspend takes back what spend has done for an instruction in this call.
func (p *profile) unspend(in *call, cost int) {
	if p.in.by == in {
		p.add(p.in.word, spending{begun: -1})
	}
	p.in = in
	p.add(in.word, spending{cycles: -cost})
}

// add leaves out a word that has not been begun any more.
func (p *profile) add(word uint16, more spending) {
	x := p.words[word]
	x.begun += more.begun
	x.cycles += more.cycles
	if x.begun == 0 {
		delete(p.words, word)
		return
	}
	p.words[word] = x
}

// list is all words, by their addresses.
func (p *profile) list() []Spent {
	var all []Spent
	for _, at := range slices.Sorted(maps.Keys(p.words)) {
		all = append(all, Spent{At: at, Cycles: p.words[at].cycles})
	}
	return all
}
