package dis_test

import (
	"math/rand"
	"strings"
	"testing"

	"wisp/api"
	"wisp/sources"
)

func TestCellsAsStructures(t *testing.T) { // P23.4: by hand, cell by cell
	for src, cells := range map[string][]uint16{
		"":                                      {},
		"if then":                               {10, 134},
		"if nop then":                           {10, 136, 18},
		"if else then":                          {10, 138, 8, 138},
		"if nop else then":                      {10, 140, 18, 8, 140},
		"if else nop then":                      {10, 138, 8, 140, 18},
		"if nop else dup then":                  {10, 140, 18, 8, 142, 24},
		"begin until":                           {10, 130},
		"begin nop until":                       {18, 10, 130},
		"nop begin until":                       {18, 10, 132},
		"begin again":                           {8, 130},
		"begin nop again":                       {18, 8, 130},
		"nop begin again":                       {18, 8, 132},
		"begin while repeat":                    {10, 138, 8, 130},
		"begin nop while repeat":                {18, 10, 140, 8, 130},
		"begin while nop repeat":                {10, 140, 18, 8, 130},
		"begin nop while dup repeat":            {18, 10, 142, 24, 8, 130},
		"do loop":                               {12, 14, 132},
		"do nop loop":                           {12, 18, 14, 132},
		"do begin until loop":                   {12, 10, 132, 14, 132},
		"do begin again loop":                   {12, 8, 132, 14, 132},
		"do begin while repeat loop":            {12, 10, 140, 8, 132, 14, 132},
		"do do loop loop":                       {12, 12, 14, 134, 14, 132},
		"exit":                                  {16},
		"nop exit nop":                          {18, 16, 18},
		"if exit then":                          {10, 136, 16},
		"if if then then":                       {10, 138, 10, 138},
		"if then if then":                       {10, 134, 10, 138},
		"if begin again then":                   {10, 138, 8, 134},
		"if begin until then":                   {10, 138, 10, 134},
		"begin if then again":                   {10, 134, 8, 130},
		"begin if then until":                   {10, 134, 10, 130},
		"begin if else then again":              {10, 138, 8, 138, 8, 130},
		"if begin while repeat then":            {10, 142, 10, 142, 8, 134},
		"begin while begin again repeat":        {10, 142, 8, 134, 8, 130},
		"begin begin again while repeat":        {8, 130, 10, 142, 8, 130},
		"begin begin until while repeat":        {10, 130, 10, 142, 8, 130},
		"begin begin while repeat while repeat": {10, 138, 8, 130, 10, 146, 8, 130},
		"if if else then then":                  {10, 142, 10, 142, 8, 142},
		"if if then else then":                  {10, 142, 10, 138, 8, 142},
		"if else if then then":                  {10, 138, 8, 142, 10, 142},
		"if if else then else then":             {10, 146, 10, 142, 8, 142, 8, 146},
		"if else if else then then":             {10, 138, 8, 146, 10, 146, 8, 146},
		"if if else nop then then":              {10, 144, 10, 142, 8, 144, 18},
		"if begin again else then":              {10, 142, 8, 134, 8, 142},
		"if then begin until":                   {10, 134, 10, 134},
		"if nop else begin again then":          {10, 140, 18, 8, 144, 8, 140},
	} {
		wantText(t, src, at128(append(append([]uint16{1}, cells...), 16)...), ": main "+src+" ;")
	}
}

// lists are what stands where a structure has one.
func lists() []string {
	return []string{"", "nop", "7", "exit", "if then", "if else then", "begin until", "begin again", "begin while repeat", "do loop"}
}

// around are all structures around two of these.
func around(a, b string) []string {
	all := []string{
		"if " + a + " then", "if " + a + " else " + b + " then",
		"begin " + a + " until", "begin " + a + " again", "begin " + a + " while " + b + " repeat",
	}
	if !strings.Contains(a, "exit") {
		all = append(all, "do "+a+" loop")
	}
	return all
}

func TestStructuresInStructures(t *testing.T) { // P23.4: each in each, with empty lists and filled ones, alone and beside others
	for _, a := range lists() {
		for _, b := range lists() {
			for _, one := range around(a, b) {
				for _, c := range lists() {
					wantItself(t, ": main "+one+" "+c+" ;")
					wantItself(t, ": main "+c+" "+one+" ;")
				}
				for _, two := range append(around(one, b), around(b, one)...) {
					wantItself(t, ": main "+two+" ;")
				}
			}
		}
	}
}

func TestShortBodies(t *testing.T) { // P23.4, P23.5: all of few words
	t.Parallel()
	for many := range 5 {
		for _, body := range sources.Bodies([]string{"nop", "exit"}, many, false) {
			wantItself(t, ": main "+body+" ;")
		}
	}
}

// nested are all texts of so many structures in one another, each of which begins with one of the openings and ends with one of the closings.
func nested(many int, openings, closings []string) []string {
	if many == 0 {
		return []string{""}
	}
	var all []string
	for _, inner := range nested(many-1, openings, closings) {
		for _, a := range openings {
			for _, b := range closings {
				all = append(all, a+" "+inner+" "+b)
			}
		}
	}
	return all
}

func TestIfsThatEndAtOnePlace(t *testing.T) { // P23.4: with an else that leads to that very place and without one, at each of them
	t.Parallel()
	for many := range 5 {
		for _, ifs := range nested(many, []string{"if", "if nop"}, []string{"then", "else then", "else nop then"}) {
			wantItself(t, ": main "+ifs+" ;")
			wantItself(t, ": main begin "+ifs+" while "+ifs+" repeat nop ;")
		}
	}
	for _, ifs := range nested(2, []string{"if", "if nop else"}, []string{"then", "if else then then", "begin again then"}) {
		for _, more := range nested(2, []string{"if", "if nop"}, []string{"then", "else then", "else begin until then"}) {
			wantItself(t, ": main if "+ifs+" else "+more+" then ;")
			wantItself(t, ": main "+more+" "+ifs+" ;")
		}
	}
}

func TestBeginsAtOnePlace(t *testing.T) { // P23.4: closed in every order
	t.Parallel()
	closings := []string{"until", "nop until", "again", "while repeat", "nop while nop repeat"}
	for many := range 6 {
		for _, begins := range nested(many, []string{"begin"}, closings) {
			wantItself(t, ": main "+begins+" ;")
		}
	}
	for _, begins := range nested(3, []string{"begin"}, closings) {
		for _, around := range []string{"if B then", "do B loop", "begin nop B again", "if else B then", "if then B", "begin while B repeat"} {
			wantItself(t, ": main nop "+strings.Replace(around, "B", begins, 1)+" nop ;")
		}
	}
}

// deep is a row in itself so often, in its last list or in its first.
func deep(r sources.Row, many int, last bool) sources.Part {
	nop := sources.Primitive(9)
	part := nop
	for range many {
		if last && r.Twofold() {
			part = r.Around(nop, part)
		} else {
			part = r.Around(part, nop)
		}
	}
	return part
}

// written is the cartridge of a writer, whatever its source may have; its entry is main's.
func written(t *testing.T, w *sources.Writer) api.Cart {
	t.Helper()
	code, at, is := w.Code()
	if !is {
		t.Fatalf("the tests' own %.200q", w.Source())
	}
	return api.Cart{Code: code, Entry: uint16(at["main"])}
}

func TestDeepStructures(t *testing.T) { // P23.2: 32 in one another, and a 33rd; many more, too
	for _, r := range sources.Rows() {
		for _, last := range []bool{false, true} {
			for _, many := range []int{1, 31, 32, 33, 34, 90} {
				var w sources.Writer
				w.Word("main", deep(r, many, last))
				if c := written(t, &w); many > 32 {
					wantNone(t, w.Source()[:30], c)
				} else {
					wantText(t, r.Src, c, w.Source())
				}
			}
		}
	}
	for many := 31; many < 35; many++ {
		mixed, rows := sources.Primitive(9), sources.Rows()
		for i := range many {
			mixed = rows[i%len(rows)].Around(mixed, sources.Primitive(9))
		}
		var w sources.Writer
		w.Word("main", mixed)
		if c := written(t, &w); many > 32 {
			wantNone(t, "all kinds", c)
		} else {
			wantText(t, "all kinds", c, w.Source())
		}
	}
}

func TestBesideOneAnother(t *testing.T) { // P23.4: structures that follow one another, more than may stand in one another
	for _, r := range sources.Rows() {
		src := strings.NewReplacer("A", "nop", "B", "").Replace(r.Src)
		wantItself(t, ": main "+sources.Times(200, src)+" ;")
		wantItself(t, ": main begin "+sources.Times(200, src)+" again ;")
	}
	r := rand.New(rand.NewSource(2304))
	for range 60 {
		src := ""
		for _, i := range r.Perm(6) {
			src += strings.NewReplacer("A", "", "B", "").Replace(sources.Rows()[i].Src) + " "
		}
		wantItself(t, ": main "+src+src+" ;")
	}
}
