package tree

import (
	"cmp"
	"slices"

	"wisp/api"
	"wisp/prim"
)

// cellSize is how many bytes a variable has.
const cellSize = 2

// begun is the kind of a structure that begin has opened, till a word behind it tells its kind.
const begun = 0

// refusal is why the reader has given up, and where.
type refusal struct {
	pos api.Pos
	e   api.Errno
}

// reader takes a text's tokens one behind the other.
type reader struct {
	rest    []api.Token // those that are still to be taken
	end     api.Pos     // the place behind the text
	program api.Program
	known   map[string]int // which names are defined already, and by which definition
	prims   map[string]int // the primitives' numbers by their names: to ask prim of each word takes too long in a long text

	// Of the word that is being read:
	at    api.Token  // the token that was taken last
	body  []api.Node // what stands outside all structures that are open
	open  []api.Node // the structures that are open, the outermost first
	ended bool
}

// read gives up at the first token that may not stand where it stands.
func read(tokens []api.Token, end api.Pos) (p api.Program, pos api.Pos, e api.Errno) {
	defer func() {
		if given := recover(); given != nil {
			why := given.(refusal)
			p, pos, e = api.Program{}, why.pos, why.e
		}
	}()
	r := &reader{rest: tokens, end: end, known: map[string]int{}, prims: primsByName()}
	for len(r.rest) > 0 {
		r.item()
	}
	if !slices.ContainsFunc(r.program.Defs, isMain) {
		panic(refusal{end, api.ErrMain})
	}
	slices.SortFunc(r.program.Banks, func(a, b api.Bank) int { return cmp.Compare(a.Num, b.Num) })
	return r.program, api.Pos{}, api.OK
}

func primsByName() map[string]int {
	byName := map[string]int{}
	for p := range prim.All() {
		// Those without a name share "", which is no word.
		byName[p.Name] = p.Op
	}
	return byName
}

// must ends the reader at a token, if that may not stand there.
func must(may bool, at api.Token, e api.Errno) {
	if !may {
		panic(refusal{at.Pos, e})
	}
}

// next takes a token.
func (r *reader) next() api.Token {
	if len(r.rest) == 0 {
		panic(refusal{r.end, api.ErrEnd})
	}
	r.at, r.rest = r.rest[0], r.rest[1:]
	return r.at
}

// item takes a definition or a bank.
func (r *reader) item() {
	begin := r.next()
	switch {
	case begin.Kind == api.TokNumber:
		r.numbered(begin)
	case begin.Text == ":":
		r.word()
	case begin.Text == "variable":
		r.define(api.DefVariable, r.name(), cellSize, nil)
	default:
		must(false, begin, api.ErrTop)
	}
}

// numbered takes what stands behind a number with which an item begins.
func (r *reader) numbered(number api.Token) {
	switch kind := r.next(); kind.Text {
	case "constant":
		r.define(api.DefConstant, r.name(), number.Value, nil)
	case "buffer":
		must(number.Value <= api.MaxRam, number, api.ErrValue)
		r.define(api.DefVariable, r.name(), number.Value, nil)
	case "bank":
		r.bank(number)
	default:
		must(false, kind, api.ErrTop)
	}
}

// name takes the name of a definition that begins.
func (r *reader) name() api.Token {
	name := r.next()
	must(isName(name.Text), name, api.ErrName)
	_, twice := r.known[name.Text]
	must(!twice, name, api.ErrTwice)
	return name
}

// define ends a definition: from here on its name is known.
func (r *reader) define(kind int, name api.Token, value uint16, body []api.Node) {
	r.known[name.Text] = len(r.program.Defs)
	r.program.Defs = append(r.program.Defs, api.Def{Kind: kind, Name: name.Text, Value: value, Body: body, Pos: name.Pos})
}

// bank takes a bank's bytes.
func (r *reader) bank(number api.Token) {
	num := int(number.Value)
	must(num < api.Banks, number, api.ErrValue)
	must(!slices.ContainsFunc(r.program.Banks, func(b api.Bank) bool { return b.Num == num }), number, api.ErrTwice)
	brace := r.next()
	must(brace.Text == "{", brace, api.ErrPair)
	var data []byte
	for one := r.next(); one.Text != "}"; one = r.next() {
		must(one.Kind == api.TokNumber && one.Value <= 255 && len(data) < api.MaxBank, one, api.ErrValue)
		data = append(data, byte(one.Value))
	}
	r.program.Banks = append(r.program.Banks, api.Bank{Num: num, Data: data})
}

// word takes a word's name and its body.
func (r *reader) word() {
	name := r.name()
	r.body, r.open, r.ended = nil, nil, false
	for !r.ended {
		r.node(r.next())
	}
	r.define(api.DefWord, name, 0, r.body)
}

// node takes a token of a body.
func (r *reader) node(at api.Token) {
	if at.Kind == api.TokNumber {
		r.add(api.Node{Kind: api.NodeLit, Value: at.Value, Pos: at.Pos})
		return
	}
	if does := r.control(at.Text); does != nil {
		does()
		return
	}
	if _, is := r.known[at.Text]; is {
		r.add(api.Node{Kind: api.NodeCall, Name: at.Text, Pos: at.Pos})
		return
	}
	if op, is := r.prims[at.Text]; is {
		r.add(api.Node{Kind: api.NodePrim, Op: op, Pos: at.Pos})
		return
	}
	must(!reserved(at.Text), at, api.ErrPair)
	must(false, at, api.ErrWord)
}

// add puts a node where the body stands: behind else and while that is the innermost structure's second list.
func (r *reader) add(n api.Node) {
	list := &r.body
	if len(r.open) > 0 {
		top := r.top()
		list = &top.Then
		if top.Has || top.Kind == api.NodeWhile {
			list = &top.Else
		}
	}
	*list = append(*list, n)
}

// top is the structure that was opened last of those still open.
func (r *reader) top() *api.Node {
	return &r.open[len(r.open)-1]
}
