package spare_test

import (
	"reflect"
	"slices"
	"testing"

	"wisp/api"
	"wisp/spare"
)

func TestGivenAndOver(t *testing.T) {
	list := []int{1, 2}
	got := spare.Given(list, 7)
	if !slices.Equal(got, list) || !slices.Equal(got[:5], []int{1, 2, 7, 7, 7}) {
		t.Errorf("%v, with its room %v", got, got[:5])
	}
	spare.Over(got[:1], 9)
	if !slices.Equal(got[:5], []int{9, 9, 9, 9, 9}) || !slices.Equal(list, []int{1, 2}) {
		t.Errorf("written over: %v; it is a copy of %v", got[:5], list)
	}
}

// sample has a list of each sort, one in another.
func sample() api.Program {
	return api.Program{
		Defs:  []api.Def{{Kind: 1, Name: "main", Body: []api.Node{{Kind: 4, Then: []api.Node{{Kind: 9}}, Else: []api.Node{{Kind: 2}}, Has: true}}}},
		Banks: []api.Bank{{Num: 3, Data: []byte{1}}},
	}
}

func TestAWriteAnywhereShows(t *testing.T) {
	for i, write := range []func(p *api.Program){
		func(p *api.Program) { p.Defs[:cap(p.Defs)][1].Name = "other" },
		func(p *api.Program) { p.Banks[:cap(p.Banks)][1].Num = 5 },
		func(p *api.Program) { p.Banks[0].Data[:2][1] = 5 },
		func(p *api.Program) { p.Banks[0].Data[0] = 5 },
		func(p *api.Program) { p.Defs[0].Body[:2][1].Kind = 5 },
		func(p *api.Program) { p.Defs[0].Body[0].Then[:2][1].Kind = 5 },
		func(p *api.Program) { p.Defs[0].Body[0].Else[:2][1].Kind = 5 },
		func(p *api.Program) { p.Defs[0].Body[0].Else[0].Value = 5 },
	} {
		p := spare.Program(sample())
		before := spare.Whole(p)
		if !reflect.DeepEqual(spare.Whole(p), before) {
			t.Fatal("nothing was written")
		}
		write(&p)
		if reflect.DeepEqual(spare.Whole(p), before) {
			t.Errorf("write %d does not show", i)
		}
	}
	p := sample()
	spare.Over(spare.Program(p).Defs[0].Body, api.Node{})
	if !reflect.DeepEqual(p, sample()) {
		t.Error("the copy shares with the program")
	}
}
