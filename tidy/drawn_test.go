package tidy_test

import (
	"math/rand"
	"slices"
	"strings"
	"testing"

	"wisp/api"
	"wisp/effect"
	"wisp/sources"
	"wisp/tree"
)

// littles are definitions of which most are next to nothing, or come to it.
const littles = ": none ; : nones nop none exit ; : one dup ; : ones one ; : lose drop ; : wait yield ; 5 constant five 6 constant six : con five ; : cons con nop ; : lone 0 + ; : pair pad bank ; : pairs pair ; : never begin 3 drop yield 0 until 9 ; : out pad if exit then 1 drop exit ; variable alone 9 buffer more : twice pairs pairs ; : bad drop r> ; "

// idioms are words that can be put in many places, and of which some or all can be left out.
var idioms = [...]string{
	"nop", "7 drop", "pad drop", "dup drop", "over drop", "swap swap", "1+ 1-", "1- 1+", "negate negate", "invert invert", ">r r>", "0 +", "0 xor", "1 *", "1 u/", "65535 and", "dup nip", "r> >r", "i drop", "j drop", "r@ drop",
	"1 2 swap 2drop", "7 7 2drop", "5 negate drop", "3 4 * drop", "7 0 / drop", "1 16 lshift drop", "pad 1+ drop", "pad pad + drop", "pad @ drop", "pad c@ 1+ drop", "swap swap swap swap", "over over 2drop", "1 +", "dup + 2/", "pad 0 = bank", "pad 5 swap < bank", "five five - drop", "pad 65535 * negate bank",
	"1 if 3 drop then", "0 if 3 drop then", "0 if 1 drop else 2 bank then", "1 if nop else exit then", "0 if halt then", "pad if then", "pad if else then", "pad if nop else 5 drop then", "pad if 1 bank else nop then", "pad if else 1 bank then", "pad 0= 0= if nop 2 bank then", "pad 3 = if exit then", "pad 3 = if halt 1 2 then", "pad 3 = if exit 7 bank then", "1 if pad if else nop then then",
	"begin 1 until", "begin 3 drop 2 until", "begin pad bank 1 until", "begin 0 while 5 drop repeat", "begin pad bank 0 while repeat", "begin pad drop 0 while yield repeat", "begin 1 0 while yield repeat drop",
	"pad 3 = if begin yield again then", "pad 3 = if begin 1 while yield repeat then", "pad 3 = if begin yield 0 until then", "pad 3 = if begin yield 0 until 5 then", "pad 3 = if begin nop 7 while yield 3 drop repeat exit then", "pad 3 = if begin 1 if yield then 0 until 1 else then", "pad 3 = if begin yield 0 until else then",
	"3 0 do i drop loop", "2 0 do nop loop", "2 0 do 3 0 do j bank j drop loop loop", "5 >r r@ drop r> drop", "5 >r r> >r r> drop", "2 0 do 1 if nop else 2 bank then loop",
	"none", "nones", "1 one 2drop", "1 ones - bank", "1 lose", "con drop", "cons bank", "con con = drop", "3 lone bank", "pair", "pairs", "twice", "none none nones", "pad 3 = if never then", "out", "pad 3 = if never 7 then", "alone @ 1 + alone !", "alone @ drop", "0 if six drop then", "wait", "six bank",
	"begin yield 0 until", "exit 1 2", "halt drop",
}

// tries is how often words are put in.
const tries = 14

// typable is a program of these words, if there is one that is typable.
func typable(words []string) (api.Program, bool) {
	p, _, e := tree.Parse(strings.Join(words, " "))
	if e != fine {
		return p, false
	}
	e, _ = effect.Typable(p)
	return p, e == fine
}

// drawn is a typable program that goes on for long, in which words have been put that can be left out; those that were met are counted.
func drawn(t *testing.T, r *rand.Rand, met map[string]int) api.Program {
	t.Helper()
	l := sources.NewLively(r)
	l.Program(r.Intn(7))
	words := append(strings.Fields(littles), l.Words...)
	p, is := typable(words)
	if !is {
		t.Fatalf("the tests' own %s", strings.Join(words, " "))
	}
	for range tries {
		s := idioms[r.Intn(len(idioms))]
		put := strings.Fields(s)
		at := 1 + r.Intn(len(words)-1)
		more := slices.Insert(slices.Clone(words), at, put...)
		if q, is := typable(more); is {
			met[s]++
			words, p = more, q
		}
	}
	return p
}

func TestDrawnProgramsHaveAllIdioms(t *testing.T) { // the tests' own
	t.Parallel()
	r, met := rand.New(rand.NewSource(2420)), map[string]int{}
	for range 500 {
		drawn(t, r, met)
	}
	for _, s := range idioms {
		if met[s] == 0 {
			t.Errorf("%q was not met", s)
		}
	}
}
