package check

import (
	"maps"
	"slices"

	"wisp/api"
	"wisp/infer"
)

// judged tells main's shape; or what is wrong, and then the zero shape.
func judged(c api.Cart) (api.Shape, error) {
	// What cart.Check, flow.Words and flow.Order find is told here too, in this order and ahead of what infer finds itself: to ask them once more would tell nothing else.
	shapes, v := infer.Shapes(c)
	if v.Err != api.OK {
		return api.Shape{}, wrong{v}
	}
	main := shapes[c.Entry]
	if !whole(main) {
		return api.Shape{}, wrong{api.Verdict{Err: api.ErrEffect, At: c.Entry}}
	}
	if err := declared(c.Effects, shapes); err != nil {
		return api.Shape{}, err
	}
	return main, nil
}

// whole tells whether main may have that shape: nothing lies on the stacks ahead of it, and nobody takes what it leaves.
func whole(main api.Shape) bool {
	return main.In == 0 && (main.Never || main.Out == 0)
}

// declared tells the lowest of the words whose effect is not among those that were declared, if there is one.
func declared(effects []api.Effect, shapes map[uint16]api.Shape) error {
	among := make(map[api.Effect]struct{}, len(effects))
	for _, x := range effects {
		among[x] = struct{}{}
	}
	for _, at := range slices.Sorted(maps.Keys(shapes)) {
		x := api.Effect{At: at, In: shapes[at].In, Out: shapes[at].Out}
		if _, is := among[x]; !is {
			return wrong{api.Verdict{Err: api.ErrEffect, At: at}}
		}
	}
	return nil
}
