package spare_test

import (
	"reflect"
	"testing"

	"wisp/api"
	"wisp/spare"
)

func sampleCart() api.Cart {
	return api.Cart{
		Code:    []byte{1, 0, 16, 0},
		Entry:   2,
		Effects: []api.Effect{{At: 2, In: 1}},
		Banks:   []api.Bank{{Num: 3, Data: []byte{1}}},
	}
}

func TestAWriteToACartridgeShows(t *testing.T) {
	for i, write := range []func(c *api.Cart){
		func(c *api.Cart) { c.Code[:5][4] = 5 },
		func(c *api.Cart) { c.Code[0] = 5 },
		func(c *api.Cart) { c.Effects[:2][1].Out = 5 },
		func(c *api.Cart) { c.Effects[0].In = 5 },
		func(c *api.Cart) { c.Banks[:2][1].Num = 5 },
		func(c *api.Cart) { c.Banks[0].Data[:2][1] = 5 },
		func(c *api.Cart) { c.Banks[0].Data[0] = 5 },
	} {
		c := spare.Cart(sampleCart())
		before := spare.WholeCart(c)
		if !reflect.DeepEqual(c, sampleCart()) || !reflect.DeepEqual(spare.WholeCart(c), before) {
			t.Fatal("nothing was written")
		}
		write(&c)
		if reflect.DeepEqual(spare.WholeCart(c), before) {
			t.Errorf("write %d does not show", i)
		}
	}
	c := sampleCart()
	given := spare.Cart(c)
	spare.Over(given.Code, 99)
	spare.Over(given.Effects, api.Effect{})
	spare.Over(given.Banks[0].Data, 99)
	if !reflect.DeepEqual(c, sampleCart()) {
		t.Error("the copy shares with the cartridge")
	}
}
