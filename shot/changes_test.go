package shot_test

import (
	"bytes"
	"fmt"
	"math"
	"math/rand"
	"slices"
	"testing"

	"wisp/api"
	"wisp/shot"
)

// wantDiff holds Diff against the second reckoning, and Apply of it against the second screen.
func wantDiff(t *testing.T, what string, a, b []byte) []shot.Change {
	t.Helper()
	cs, e := shot.Diff(a, b)
	if e != fine || !slices.Equal(cs, diffOf(a, b)) {
		t.Fatalf("P20.3: Diff of %s: %d changes, %d, want %d changes, %d: %.300v", what, len(cs), e, len(diffOf(a, b)), fine, cs)
	}
	if len(cs) > pixels {
		t.Fatalf("P20.7: Diff of %s: %d changes", what, len(cs))
	}
	if s, e := shot.Apply(a, cs); e != fine || !bytes.Equal(s, b) {
		t.Fatalf("P20.7: Apply of Diff of %s: %d bytes, %d", what, len(s), e)
	}
	return cs
}

// wantApply holds Apply against the second reckoning.
func wantApply(t *testing.T, what string, screen []byte, cs ...shot.Change) api.Errno {
	t.Helper()
	want, err := applyOf(screen, cs)
	s, e := shot.Apply(screen, cs)
	if e != err || !bytes.Equal(s, want) {
		t.Errorf("P20.3: Apply of %s: %d bytes, %d, want %d bytes, %d: %.300v", what, len(s), e, len(want), err, cs)
	}
	return e
}

func TestDiffAndApplyOfOtherLengths(t *testing.T) { // P20.3
	for _, n := range lengths {
		one := make([]byte, n)
		for _, m := range lengths {
			want := badInput
			if n == pixels && m == pixels {
				want = fine
			}
			if cs, e := shot.Diff(one, make([]byte, m)); e != want || len(cs) != 0 {
				t.Errorf("P20.3: Diff of %d and %d bytes: %v, %d, want none, %d", n, m, cs, e, want)
			}
		}
		for _, cs := range [][]shot.Change{nil, {}, {{New: 1}}, {{X: 64}}} {
			want := badInput
			if n == pixels && (len(cs) == 0 || cs[0].X == 0) {
				want = fine
			}
			s, e := shot.Apply(one, cs)
			if e != want || e == fine && len(s) != pixels || e != fine && len(s) != 0 {
				t.Errorf("P20.3: Apply of %v to %d bytes: %d bytes, %d, want %d", cs, n, len(s), e, want)
			}
		}
	}
	for _, two := range [][2][]byte{{nil, nil}, {nil, zeros()}, {zeros(), nil}} {
		if cs, e := shot.Diff(two[0], two[1]); e != badInput || len(cs) != 0 {
			t.Errorf("P20.3: Diff with nil: %v, %d", cs, e)
		}
	}
	if s, e := shot.Apply(nil, nil); e != badInput || len(s) != 0 {
		t.Errorf("P20.3: Apply to nil: %d bytes, %d", len(s), e)
	}
}

func TestDiffOfEqualScreens(t *testing.T) { // P20.3, P20.7
	r := rand.New(rand.NewSource(203))
	for range 200 {
		s := drawn(r)
		if cs := wantDiff(t, "one screen", s, s); len(cs) != 0 {
			t.Fatalf("P20.7: a screen differs from itself: %v", cs)
		}
		if cs := wantDiff(t, "a screen and its copy", s, bytes.Clone(s)); len(cs) != 0 {
			t.Fatalf("P20.7: a screen differs from its copy: %v", cs)
		}
	}
}

func TestDiffOfOnePixel(t *testing.T) { // P20.3: at every place
	a := filled(0, 9, 200)
	for y := range high {
		for x := range wide {
			b := bytes.Clone(a)
			b[wide*y+x] ^= 0x81
			cs := wantDiff(t, "one pixel", a, b)
			want := shot.Change{X: x, Y: y, Old: a[wide*y+x], New: b[wide*y+x]}
			if len(cs) != 1 || cs[0] != want {
				t.Fatalf("P20.3: Diff of one pixel: %v, want %v", cs, want)
			}
		}
	}
}

func TestDiffOfAllPixels(t *testing.T) { // P20.3, P20.7: row by row from the top, column by column from the left
	cs := wantDiff(t, "all pixels", filled(1, 2, 3), filled(2, 3, 1))
	if len(cs) != pixels {
		t.Fatalf("P20.7: %d changes, want %d", len(cs), pixels)
	}
	for i, c := range cs {
		if c.X != i%64 || c.Y != i/64 || c.Old != byte(1+i%3) || c.New != byte(1+(i+1)%3) {
			t.Fatalf("P20.3: the change %d is %v", i, c)
		}
	}
	a, b := zeros(), zeros()
	for _, at := range []int{3071, 64, 0, 63, 127, 65, 3008} {
		b[at] = 4
	}
	want := []shot.Change{{0, 0, 0, 4}, {63, 0, 0, 4}, {0, 1, 0, 4}, {1, 1, 0, 4}, {63, 1, 0, 4}, {0, 47, 0, 4}, {63, 47, 0, 4}}
	if got := wantDiff(t, "the edges", a, b); !slices.Equal(got, want) {
		t.Errorf("P20.3: %v, want %v", got, want)
	}
}

func TestDiffOfEveryTwoPixels(t *testing.T) { // P20.3
	for p := range 256 {
		a, b := zeros(), zeros()
		for q := range 256 {
			a[3*q], b[3*q] = byte(p), byte(q)
		}
		if cs := wantDiff(t, fmt.Sprintf("%d and all pixels", p), a, b); len(cs) != 255 {
			t.Errorf("P20.3: %d differs from %d pixels, want 255", p, len(cs))
		}
	}
}

func TestApplyAtTheEdges(t *testing.T) { // P20.3: columns 0 to 63, rows 0 to 47, whatever place another number would come to
	places := []int{-1, 0, 1, 47, 48, 62, 63, 64, 65, -64, 127, 128, 3071, 3072, 1 << 32, 1<<32 + 1, 1 << 57, 1 << 58, 1<<58 + 1, -1 << 58, math.MaxInt, math.MinInt, math.MaxInt32, math.MinInt32}
	for _, x := range places {
		for _, y := range places {
			e := wantApply(t, fmt.Sprintf("a change at %d %d", x, y), zeros(), shot.Change{X: x, Y: y, New: 1})
			if is := x >= 0 && x <= 63 && y >= 0 && y <= 47; is != (e == fine) {
				t.Errorf("P20.3: Apply of a change at %d %d: %d", x, y, e)
			}
			wantApply(t, "Old and New alike", zeros(), shot.Change{X: x, Y: y})
			wantApply(t, "it stands behind another", zeros(), shot.Change{X: 5, Y: 5, New: 1}, shot.Change{X: x, Y: y, New: 1})
		}
	}
	for x := -2; x < 66; x++ {
		for y := -2; y < 50; y++ {
			wantApply(t, fmt.Sprintf("a change at %d %d", x, y), filled(3), shot.Change{X: x, Y: y, Old: 3, New: 200})
		}
	}
}

func TestApplyOfAnotherOld(t *testing.T) { // P20.3: Old is the pixel as it is then
	for old := range 256 {
		for _, pixel := range []byte{0, 1, 127, 128, 171, 255} {
			e := wantApply(t, "another Old", with(7, 3, pixel), shot.Change{X: 7, Y: 3, Old: byte(old), New: 5})
			if (e == fine) != (byte(old) == pixel) {
				t.Errorf("P20.3: Apply of Old %d to the pixel %d: %d", old, pixel, e)
			}
		}
	}
	a := filled(0, 1, 2)
	last := shot.Change{X: 63, Y: 47, Old: a[3071] + 1, New: 9}
	if e := wantApply(t, "the last Old is another", a, append(diffOf(a, filled(5)), last)...); e != badInput {
		t.Errorf("P20.3: the last Old is another: %d", e)
	}
}

func TestApplyMoreThanOnce(t *testing.T) { // P20.3: one behind the other
	for what, c := range map[string]struct {
		cs []shot.Change
		e  api.Errno
	}{
		"no changes":                       {nil, fine},
		"Old and New alike":                {[]shot.Change{{}}, fine},
		"the same twice, alike":            {[]shot.Change{{X: 1}, {X: 1}}, fine},
		"there and back":                   {[]shot.Change{{New: 1}, {Old: 1}}, fine},
		"there and back and there":         {[]shot.Change{{New: 1}, {Old: 1}, {New: 7}}, fine},
		"a chain":                          {[]shot.Change{{New: 1}, {Old: 1, New: 2}, {Old: 2, New: 3}, {Old: 3, New: 3}}, fine},
		"a chain, others between":          {[]shot.Change{{New: 1}, {X: 2, New: 1}, {Old: 1, New: 2}, {X: 2, Old: 1, New: 8}}, fine},
		"from the last place to the first": {[]shot.Change{{X: 63, Y: 47, New: 1}, {X: 0, Y: 0, New: 2}}, fine},
		"Old is the pixel as it was":       {[]shot.Change{{New: 1}, {New: 1}}, badInput},
		"Old is the one as it will be":     {[]shot.Change{{Old: 1, New: 2}, {New: 1}}, badInput},
		"a chain that is broken":           {[]shot.Change{{New: 1}, {Old: 1, New: 2}, {Old: 1, New: 3}}, badInput},
		"the first is wrong":               {[]shot.Change{{X: 64}, {New: 1}}, badInput},
		"the last is wrong":                {[]shot.Change{{New: 1}, {Y: 48}}, badInput},
	} {
		if e := wantApply(t, what, zeros(), c.cs...); e != c.e {
			t.Errorf("P20.3: Apply of %s: %d, want %d", what, e, c.e)
		}
	}
}

// anyChanges are changes in a row, of which each has the pixel as it is then, for the most part.
func anyChanges(r *rand.Rand, screen []byte) []shot.Change {
	now := bytes.Clone(screen)
	cs := make([]shot.Change, r.Intn(40))
	few := 1 + r.Intn(pixels)
	for i := range cs {
		at := r.Intn(few)
		cs[i] = shot.Change{X: at % wide, Y: at / wide, Old: now[at], New: byte(r.Intn(4))}
		now[at] = cs[i].New
	}
	if len(cs) > 0 && r.Intn(2) == 0 {
		c := &cs[r.Intn(len(cs))]
		switch r.Intn(4) {
		case 0:
			c.Old++
		case 1:
			c.X += 64 * (r.Intn(3) - 1)
		case 2:
			c.Y += 48 * (r.Intn(3) - 1)
		case 3:
			c.New++
		}
	}
	return cs
}

func TestApplyOfAnyChanges(t *testing.T) { // P20.3
	r := rand.New(rand.NewSource(204))
	taken, refused := 0, 0
	for range 3000 {
		s := drawn(r)
		if wantApply(t, "any changes", s, anyChanges(r, s)...) == fine {
			taken++
		} else {
			refused++
		}
	}
	if taken < 500 || refused < 500 {
		t.Errorf("the test's own changes: %d are taken, %d refused", taken, refused)
	}
}
