package dis

import (
	"strconv"
	"strings"

	"wisp/api"
	"wisp/flow"
	"wisp/prim"
)

// linesOf tells each word with its instructions.
func linesOf(words []flow.Word) string {
	var lines strings.Builder
	for _, w := range words {
		lines.WriteString(digits(w.At) + " :\n")
		for _, x := range w.Instrs {
			lines.WriteString("  " + digits(x.At) + " " + told(x) + "\n")
		}
	}
	return lines.String()
}

// told is what stands in a line for an instruction.
func told(x flow.Instr) string {
	switch x.Op {
	case api.OpEnter:
		return "call " + digits(x.Word)
	case api.OpConst:
		return "const " + decimal(x.Operand)
	case api.OpLit:
		return "lit " + decimal(x.Operand)
	case api.OpBranch:
		return "branch " + digits(x.Operand)
	case api.OpZBranch:
		return "zbranch " + digits(x.Operand)
	case api.OpLoop:
		return "loop " + digits(x.Operand)
	case api.OpDo:
		return "do"
	case api.OpExit:
		return "exit"
	}
	// No error: it is an instruction's.
	p, _ := prim.Of(x.Op)
	return p.Name
}

func decimal(x uint16) string {
	return strconv.Itoa(int(x))
}

// digits are an address's four: the 1 ahead of them keeps the zeros in front.
func digits(at uint16) string {
	return strconv.FormatUint(1<<16+uint64(at), 16)[1:]
}
