package check

import (
	"errors"
	"strconv"

	"wisp/api"
)

// wrong is what was found: a verdict that is not OK, as an error value.
type wrong struct{ api.Verdict }

func (w wrong) Error() string {
	return "error " + strconv.Itoa(int(w.Err)) + " at " + strconv.Itoa(int(w.At))
}

// Is lets errors.Is ask for a number, at whatever address it was found.
func (w wrong) Is(asked error) bool {
	x, is := asked.(wrong)
	return is && x.Err == w.Err
}

// told tells the verdict that an error value holds, however it is wrapped; of none {OK, 0}.
func told(err error) api.Verdict {
	if err == nil {
		return api.Verdict{}
	}
	var w wrong
	errors.As(err, &w)
	return api.Verdict{Err: numberOf(err), At: w.At}
}

// numberOf tells which number an error has.
func numberOf(err error) api.Errno {
	for _, e := range numbers() {
		if errors.Is(err, wrong{api.Verdict{Err: e}}) {
			return e
		}
	}
	// No layer below has another one; were there one, what has it must not pass for accepted.
	return api.ErrInput
}

// numbers are the errors that there may be: those of cart, of flow and of infer, and the one that is found here.
func numbers() []api.Errno {
	return []api.Errno{
		api.ErrMagic, api.ErrSum, api.ErrTable, api.ErrSection, api.ErrCart,
		api.ErrCall, api.ErrFall, api.ErrOpcode, api.ErrTarget,
		api.ErrReturn, api.ErrDepth, api.ErrJoin, api.ErrLoop,
		api.ErrEffect,
	}
}
