package dis_test

import (
	"fmt"
	"slices"
	"testing"

	"wisp/api"
	"wisp/carts"
)

// whole is a source with everything that a source has, main in the midst.
const whole = "7 constant k variable v 3 buffer b : w dup if exit then drop ; : x 1 if 2 else w then begin k 1 until ; " +
	": main begin v @ while x 9 0 do i if else then loop repeat begin 65535 b ! again exit ; 1 constant one : y main 2 one ; 2 bank { 1 2 }"

func TestCodeThatIsCut(t *testing.T) { // P23.2: at every place
	c := cartOf(t, whole)
	answered := 0
	for many := range len(c.Code) + 1 {
		d := c
		d.Code = c.Code[:many]
		if wantAsModel(t, fmt.Sprintf("cut at %d", many), d) {
			answered++
		}
	}
	if answered < 4 { // behind main, behind one, behind y and where y would end by an exit
		t.Errorf("%d were answered", answered)
	}
}

func TestCellsTurned(t *testing.T) { // P23.2, P23.6: each bit of each cell, and each cell as another's
	t.Parallel()
	c := cartOf(t, whole)
	answered, refused := 0, 0
	turned := func(what string, at int, x byte) {
		d := c
		d.Code = slices.Clone(c.Code)
		d.Code[at] ^= x
		if wantAsModel(t, what, d) {
			answered++
		} else {
			refused++
		}
	}
	for at := range c.Code {
		for bit := range 8 {
			turned(fmt.Sprintf("bit %d of the byte %d", bit, at), at, 1<<bit)
		}
		turned(fmt.Sprintf("all bits of the byte %d", at), at, 255)
	}
	for at := 128; at < len(c.Code); at += 2 {
		for from := 0; from < len(c.Code); from += 2 {
			d := c
			d.Code = slices.Clone(c.Code)
			copy(d.Code[at:at+2], c.Code[from:from+2])
			if wantAsModel(t, fmt.Sprintf("the cell at %d as that at %d", at, from), d) {
				answered++
			} else {
				refused++
			}
		}
	}
	if answered < 500 || refused < 2000 {
		t.Errorf("%d were answered, %d refused", answered, refused)
	}
}

func TestCellsTakenOutAndPutIn(t *testing.T) { // P23.2
	c := cartOf(t, whole)
	for at := 0; at <= len(c.Code); at += 2 {
		for _, x := range []uint16{0, 1, 2, 6, 8, 16, 18, 128} {
			d := c
			d.Code = slices.Insert(slices.Clone(c.Code), at, carts.Code(x)...)
			wantAsModel(t, fmt.Sprintf("%d put in at %d", x, at), d)
		}
		if at < len(c.Code) {
			d := c
			d.Code = slices.Delete(slices.Clone(c.Code), at, at+2)
			wantAsModel(t, fmt.Sprintf("the cell at %d taken out", at), d)
		}
	}
}

func TestEntries(t *testing.T) { // P23.2: a word's code field, and no other: no thread, no constant, no middle of a word, nothing beyond
	t.Parallel()
	for src, words := range map[string]int{whole: 4, ": a ; 1 constant k : main a k ;": 2} {
		c := cartOf(t, src)
		answered := 0
		for entry := 0; entry < len(c.Code)+8; entry++ {
			c.Entry = uint16(entry)
			if wantAsModel(t, fmt.Sprintf("the entry %d", entry), c) {
				answered++
			}
		}
		if answered != words {
			t.Errorf("%s: %d entries were answered, want those of the %d words", src, answered, words)
		}
	}
	c := at128(1, 16)
	for entry := range 65536 {
		if c.Entry = uint16(entry); entry != 128 {
			wantNone(t, fmt.Sprintf("the entry %d", entry), c)
		}
	}
}

func TestNoCode(t *testing.T) { // P23.2: fewer cells than the threads, other threads, and nothing behind them
	for many := range 65 {
		for _, entry := range []uint16{0, 2, uint16(2 * many), 128} {
			code := carts.Code(carts.Threads()[:many]...)
			wantNone(t, "threads alone", api.Cart{Code: code, Entry: entry})
			wantNone(t, "threads, and half a cell", api.Cart{Code: append(code, 1), Entry: entry})
		}
	}
	for k := range uint16(64) {
		for _, x := range []uint16{k + 1, k + 256, 0xffff - k, 2 * k, 1, 16} {
			cells := append(carts.Threads(), 1, 16)
			if cells[k] = x; x != k {
				wantNone(t, "other threads", api.Cart{Code: carts.Code(cells...), Entry: 128})
			}
		}
	}
	late := carts.Code(append([]uint16{9}, append(carts.Threads(), 1, 16)...)...)
	wantNone(t, "threads that stand one cell later", api.Cart{Code: late, Entry: 130})
	wantNone(t, "no threads", api.Cart{Code: carts.Code(1, 16), Entry: 0})
}

func TestCellsOfABody(t *testing.T) { // P23.2: each cell there is, where an instruction is
	for x := range 65536 {
		cell := uint16(x)
		wantAsModel(t, "a cell of a body", carts.Of(132, 2, 9, 1, cell, 16))
		if x < 200 {
			wantAsModel(t, "with an operand behind it", carts.Of(132, 2, 9, 1, cell, 134, 16))
			wantAsModel(t, "at the end", carts.Of(132, 2, 9, 1, cell))
			wantAsModel(t, "where a definition begins", carts.Of(128, 1, 16, cell, 16, 16))
		}
	}
}

func TestDefinitions(t *testing.T) { // P23.2: each that ends or begins amiss
	for what, cells := range map[string][]uint16{
		"a word without cells":                     {1},
		"a word without cells ahead of another":    {1, 1, 16},
		"a word without cells ahead of a constant": {1, 2, 16},
		"no exit at the end":                       {1, 18},
		"no exit at a word's end":                  {1, 18, 1, 16},
		"no exit ahead of a constant":              {1, 18, 2, 16},
		"a lit of 16 at the end":                   {1, 6, 16},
		"halt at the end":                          {1, 22},
		"again at the end":                         {1, 8, 130},
		"a call at the end":                        {1, 16, 1, 128},
		"a constant without a value":               {1, 16, 2},
		"lit without a value":                      {1, 6},
		"a branch without a target":                {1, 8},
		"a zbranch without a target":               {1, 10},
		"a loop without a target":                  {1, 12, 14},
		"a cell behind a word that begins none":    {1, 16, 0},
		"an exit of its own":                       {16},
		"a value behind a constant's":              {2, 7, 7, 1, 16},
		"a thread of enter":                        {1, 2, 16, 16},
		"a thread of const":                        {1, 4, 16},
		"the cell 0":                               {1, 0, 16},
		"an odd thread":                            {1, 19, 16},
		"the thread behind the last":               {1, 128 + 6, 16},
		"a great cell":                             {1, 65535, 16},
		"a call of itself":                         {1, 128, 16},
		"a call of what stands behind":             {1, 134, 16, 1, 16},
		"a constant that stands behind":            {1, 134, 16, 2, 16},
		"a call of a word's first instruction":     {1, 16, 1, 130, 16},
		"a call of a number 1":                     {1, 6, 1, 16, 1, 132, 16},
		"a call of an odd address":                 {1, 16, 1, 129, 16},
		"a call of a constant's value 1":           {1, 16, 2, 1, 1, 134, 16},
		"a call of a thread that is no address":    {1, 16, 1, 1, 16},
		"exit in do":                               {1, 12, 16, 14, 132, 16},
		"exit in if in do":                         {1, 12, 10, 138, 16, 14, 132, 16},
		"do alone":                                 {1, 12, 16},
		"loop alone":                               {1, 14, 130, 16},
		"loop alone, to itself":                    {1, 18, 14, 132, 16},
		"do and loop to do":                        {1, 12, 14, 130, 16},
		"do and loop to loop's operand":            {1, 12, 14, 134, 16},
		"do and loop to a place behind do's":       {1, 12, 18, 14, 134, 16},
		"loop ahead of do":                         {1, 14, 136, 12, 16},
		"two loops to one do":                      {1, 12, 14, 132, 14, 132, 16},
		"two dos and one loop":                     {1, 12, 12, 14, 134, 16},
		"two dos, crossed loops":                   {1, 12, 12, 14, 132, 14, 134, 16},
		"a branch on":                              {1, 8, 134, 16},
		"a branch far on":                          {1, 8, 136, 18, 16},
		"a branch to its operand":                  {1, 8, 132, 16},
		"a zbranch to its operand":                 {1, 10, 132, 16},
		"a branch to the word's code field":        {1, 8, 128, 16},
		"a zbranch to the word's code field":       {1, 10, 128, 16},
		"a branch to a thread":                     {1, 8, 18, 16},
		"a zbranch to a thread":                    {1, 10, 16, 16},
		"a branch between cells":                   {1, 8, 131, 16},
		"a zbranch back between cells":             {1, 18, 10, 131, 16},
		"a zbranch on between cells":               {1, 10, 135, 18, 16},
		"a zbranch behind the word's exit":         {1, 10, 136, 16},
		"a zbranch beyond the word":                {1, 10, 138, 16, 1, 16},
		"a zbranch beyond the code":                {1, 10, 60000, 16},
		"a zbranch to the word ahead":              {1, 16, 1, 10, 130, 16},
		"a branch to the word ahead":               {1, 16, 1, 8, 130, 16},
		"a loop to the word ahead":                 {1, 12, 14, 132, 16, 1, 14, 132, 16},
		"a zbranch into a number":                  {1, 10, 136, 6, 18, 16},
		"a branch back into a number":              {1, 6, 18, 8, 132, 16},
		"an until back into a number":              {1, 6, 18, 10, 132, 16},
		"an else that leads into a number":         {1, 10, 138, 8, 140, 6, 18, 16},
		"an else that leads beyond the word":       {1, 10, 138, 8, 142, 16, 1, 16},
		"two ifs that cross":                       {1, 10, 140, 10, 142, 18, 18, 16},
		"a begin that crosses an if":               {1, 10, 138, 18, 18, 10, 134, 16},
		"an if that crosses a begin":               {1, 18, 10, 142, 8, 130, 18, 16},
		"an if that crosses a do":                  {1, 10, 138, 12, 18, 14, 136, 16},
		"a do that crosses an if":                  {1, 12, 10, 142, 14, 132, 18, 16},
		"two begins that cross":                    {1, 18, 18, 10, 130, 8, 132, 16},
		"two whiles of one loop":                   {1, 10, 142, 10, 142, 8, 130, 16},
		"while in an if in the loop":               {1, 10, 138, 10, 142, 8, 130, 16},
		"a while of an until":                      {1, 10, 138, 10, 130, 18, 16},
		"two elses of one if":                      {1, 10, 138, 8, 142, 8, 142, 16},
		"an else of two ifs":                       {1, 10, 142, 10, 142, 8, 144, 18, 16},
		"an else of no if":                         {1, 10, 136, 18, 8, 142, 18, 16},
		"an until back to a repeat":                {1, 18, 10, 140, 8, 130, 10, 136, 16},
		"an else into another structure":           {1, 10, 138, 8, 142, 10, 144, 18, 16},
	} {
		wantAsModel(t, what, at128(cells...))
		entry := uint16(128 + 2*len(cells))
		wantAsModel(t, what+", ahead of main", carts.Of(entry, append(cells, 1, 16)...))
		wantNone(t, what, at128(cells...))
	}
}
