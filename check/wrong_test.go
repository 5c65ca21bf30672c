package check

import (
	"errors"
	"testing"

	"wisp/api"
)

func TestOneThatFitsIsEnough(t *testing.T) { // 18.1, 5: cart.Check takes no cartridge in which an address stands twice, and so this is asked here
	shapes := map[uint16]api.Shape{8: {In: 1, Out: 2, Data: 5, Return: 1}, 4: {}}
	right, wrongs := api.Effect{At: 8, In: 1, Out: 2}, []api.Effect{{At: 8, In: 2, Out: 2}, {At: 8, In: 1, Out: 1}, {At: 8}, {At: 6, In: 1, Out: 2}}
	for _, x := range wrongs {
		for _, list := range [][]api.Effect{{{At: 4}, right, x}, {{At: 4}, x, right}, {x, right, x, {At: 4}}, {right, right, x, {At: 4, In: 1}, {At: 4}}} {
			if err := declared(list, shapes); err != nil {
				t.Errorf("%v: %v", list, err)
			}
		}
		for at, list := range map[uint16][]api.Effect{8: {{At: 4}, x, x}, 4: {x, {At: 4, Out: 1}}} {
			if v := told(declared(list, shapes)); v != (api.Verdict{Err: 154, At: at}) {
				t.Errorf("%v: %v, want {154 %d}", list, v, at)
			}
		}
	}
}

// around wraps an error.
type around struct{ error }

func (a around) Unwrap() error { return a.error }

func TestTold(t *testing.T) { // the chapter's 'Ways': the error value holds the verdict, and errors.Is tells which number it is
	if v := told(nil); v != (api.Verdict{}) {
		t.Errorf("of nothing: %v", v)
	}
	for e := api.Errno(70); e < 170; e++ {
		for _, at := range []uint16{0, 2, 129, 65535} {
			err := error(wrong{api.Verdict{Err: e, At: at}})
			// What no layer below tells is still not OK.
			want := api.Verdict{Err: 2, At: at}
			if e <= 74 || e >= 150 && e <= 154 || e >= 160 && e <= 163 {
				want.Err = e
			}
			if v, w := told(err), told(around{around{err}}); v != want || w != want {
				t.Errorf("%v: %v, wrapped %v", err, v, w)
			}
			for other := api.Errno(70); other < 170; other++ {
				if is := errors.Is(err, wrong{api.Verdict{Err: other, At: 7}}); is != (other == e) {
					t.Errorf("errors.Is(%v, the number %d) = %t", err, other, is)
				}
			}
		}
	}
	if v := told(errors.New("anything")); v != (api.Verdict{Err: 2}) {
		t.Errorf("of an error without a verdict: %v", v)
	}
	if text := (wrong{api.Verdict{Err: 154, At: 128}}).Error(); text != "error 154 at 128" {
		t.Errorf("%q", text)
	}
}

func TestWhole(t *testing.T) { // 18.1, 4
	for _, x := range []struct {
		main api.Shape
		want bool
	}{
		{api.Shape{}, true}, {api.Shape{Data: 9, Return: 9}, true}, {api.Shape{Never: true}, true},
		{api.Shape{In: 1}, false}, {api.Shape{Out: 1}, false}, {api.Shape{In: 1, Out: 1}, false},
		{api.Shape{In: 1, Never: true}, false}, {api.Shape{Out: 1, Never: true}, true},
	} {
		if got := whole(x.main); got != x.want {
			t.Errorf("%+v: %t", x.main, got)
		}
	}
}
