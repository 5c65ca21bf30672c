package spare

import (
	"slices"

	"wisp/api"
)

// Cart is a copy of a cartridge, each of whose lists has room behind it.
func Cart(c api.Cart) api.Cart {
	c.Code = Given(c.Code, 77)
	c.Effects = Given(c.Effects, api.Effect{At: 77, In: 77, Out: 77})
	c.Banks = banks(c.Banks)
	return c
}

// WholeCart is a copy of a cartridge in which the room of its lists stands as if it were in them.
func WholeCart(c api.Cart) api.Cart {
	c.Code, c.Effects = slices.Clone(c.Code[:cap(c.Code)]), slices.Clone(c.Effects[:cap(c.Effects)])
	c.Banks = wholeBanks(c.Banks)
	return c
}

func banks(list []api.Bank) []api.Bank {
	list = Given(list, api.Bank{Num: 77})
	for i := range list {
		list[i].Data = Given(list[i].Data, 77)
	}
	return list
}

func wholeBanks(list []api.Bank) []api.Bank {
	list = slices.Clone(list[:cap(list)])
	for i := range list {
		list[i].Data = slices.Clone(list[i].Data[:cap(list[i].Data)])
	}
	return list
}
