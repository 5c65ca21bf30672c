package sources

import (
	"strconv"
	"strings"
)

// Writer writes programs, definition by definition. Its zero value has none.
type Writer struct {
	defs []Part
	ram  int
}

// Word defines one with that body.
func (w *Writer) Word(name string, body ...Part) {
	b := Behind(body...)
	w.defs = append(w.defs, Part{": " + name + " " + b.Src + " ;", name + ": 1 " + b.Cells + " 16"})
}

// Constant defines one.
func (w *Writer) Constant(name string, value uint16) {
	s := strconv.Itoa(int(value))
	w.defs = append(w.defs, Part{s + " constant " + name, name + ": 2 " + s})
}

// Variable defines one.
func (w *Writer) Variable(name string) { w.memory("variable "+name, name, 2) }

// Buffer defines one of so many bytes.
func (w *Writer) Buffer(name string, bytes int) {
	w.memory(strconv.Itoa(bytes)+" buffer "+name, name, bytes)
}

func (w *Writer) memory(src, name string, bytes int) {
	w.defs = append(w.defs, Part{src, name + ": 2 " + strconv.Itoa(0x8000+w.ram)})
	w.ram += bytes
}

// Source is the text.
func (w *Writer) Source() string { return Behind(w.defs...).Src }

// Code is the program's: the primitives' cells, and then the definitions', low byte first; and where the definitions' names are marked. What is no cell is nobody's: false.
func (w *Writer) Code() (code []byte, at map[string]int, is bool) {
	for k := range 64 {
		code = append(code, byte(k), 0)
	}
	words := strings.Fields(Behind(w.defs...).Cells)
	at = marks(words, len(code))
	for _, x := range words {
		if strings.HasSuffix(x, ":") {
			continue
		}
		cell, is := cellOf(x, at)
		if !is {
			return nil, nil, false
		}
		code = append(code, byte(cell%256), byte(cell/256))
	}
	return code, at, true
}

// marks are the places of all marks, where the first cell lies there.
func marks(words []string, first int) map[string]int {
	at := map[string]int{}
	for _, x := range words {
		if mark, is := strings.CutSuffix(x, ":"); is {
			at[mark] = first
		} else {
			first += 2
		}
	}
	return at
}

func cellOf(word string, at map[string]int) (int, bool) {
	if mark, is := strings.CutSuffix(word, ">"); is {
		cell, known := at[mark]
		return cell, known
	}
	cell, err := strconv.Atoi(word)
	return cell, err == nil
}
