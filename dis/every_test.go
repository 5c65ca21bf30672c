package dis_test

import (
	"sync"
	"testing"

	"wisp/api"
	"wisp/carts"
	"wisp/dis"
	"wisp/emit"
	"wisp/tree"
)

// sized are all bodies of so many cells, made of nop, exit and structures.
func sized(many int, inDo bool) [][]api.Node {
	if many == 0 {
		return [][]api.Node{nil}
	}
	var all [][]api.Node
	for first := 1; first <= many; first++ {
		for _, n := range sizedNodes(first, inDo) {
			for _, rest := range sized(many-first, inDo) {
				all = append(all, append([]api.Node{n}, rest...))
			}
		}
	}
	return all
}

// sizedNodes are all of so many cells: by 13.2's table a structure has some itself, and then those of its lists.
func sizedNodes(many int, inDo bool) []api.Node {
	var all []api.Node
	if many == 1 {
		all = append(all, api.Node{Kind: 1, Op: 9})
		if !inDo {
			all = append(all, api.Node{Kind: 9})
		}
	}
	if many >= 2 {
		for _, a := range sized(many-2, inDo) {
			all = append(all, api.Node{Kind: 4, Then: a}, api.Node{Kind: 5, Then: a}, api.Node{Kind: 7, Then: a})
		}
	}
	if many >= 3 {
		for _, a := range sized(many-3, true) {
			all = append(all, api.Node{Kind: 8, Then: a})
		}
	}
	for first := 0; first <= many-4; first++ {
		for _, a := range sized(first, inDo) {
			for _, b := range sized(many-4-first, inDo) {
				all = append(all, api.Node{Kind: 4, Then: a, Else: b, Has: true}, api.Node{Kind: 6, Then: a, Else: b})
			}
		}
	}
	return all
}

// cellsOfAny goes through all of so many cells behind some: nop, exit, do, and branch, zbranch and loop to each place there is around them.
func cellsOfAny(many int, ahead []uint16, do func(cells []uint16)) {
	if many == 0 {
		do(ahead)
		return
	}
	for _, x := range []uint16{18, 16, 12} {
		cellsOfAny(many-1, append(ahead, x), do)
	}
	if many < 2 {
		return
	}
	end := uint16(128 + 2*(len(ahead)+many))
	for _, x := range []uint16{8, 10, 14} {
		for to := uint16(128); to <= end+2; to += 2 {
			cellsOfAny(many-2, append(ahead, x, to), do)
		}
	}
}

func TestEveryShortCode(t *testing.T) { // P23.2, P23.4, P23.5: of all there is, just that is answered which a program makes, by that program
	t.Parallel()
	const most = 7
	for many := range most + 1 {
		programs := map[string]api.Program{}
		for _, body := range sized(many, false) {
			p := api.Program{Defs: []api.Def{{Kind: 1, Name: "main", Body: body}}}
			code, e := emit.Code(p)
			if _, twice := programs[string(code)]; e != fine || twice {
				t.Fatalf("P23.4: %v: %d, or the code of another program", p, e)
			}
			programs[string(code)] = p
		}
		answered := 0
		var lock sync.Mutex
		var all sync.WaitGroup
		for _, first := range []uint16{18, 16, 12, 8, 10, 14} {
			all.Go(func() {
				cellsOfAny(many, []uint16{1}, func(cells []uint16) {
					if len(cells) > 1 && cells[1] != first || len(cells) == 1 && first != 18 {
						return
					}
					c := at128(append(append([]uint16{}, cells...), 16)...)
					want, is := programs[string(c.Code)]
					p, e := dis.Program(c)
					if is != (e == fine) || is && !tree.Same(p, want) {
						t.Errorf("P23.2: %v: Program = %v, %d, want %v", cells, p, e, want)
					}
					if is {
						lock.Lock()
						answered++
						lock.Unlock()
					}
				})
			})
		}
		if all.Wait(); answered != len(programs) {
			t.Errorf("P23.5: of %d cells: %d were answered, want %d", many, answered, len(programs))
		}
	}
}

func TestEveryShortCodeOfCalls(t *testing.T) { // P23.2: a constant, a word and main, each of whose cells is each that could be called, or some others
	some := []uint16{1, 2, 16, 18, 128, 132, 134, 136, 138, 140, 130}
	for _, a := range some {
		for _, b := range some {
			for _, c := range some {
				for _, d := range some {
					wantAsModel(t, "cells", carts.Of(132, 2, a, 1, b, c, d, 16))
					wantAsModel(t, "cells", carts.Of(136, 2, 7, 1, a, b, c, d))
				}
			}
		}
	}
}
