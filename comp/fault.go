package comp

import (
	"errors"
	"strconv"

	"wisp/api"
)

// number is the error of a layer below as an error value.
type number api.Errno

func (n number) Error() string {
	return "error " + strconv.Itoa(int(n))
}

// placed is an error with its place in the source.
type placed struct {
	at  api.Pos
	err error
}

func (p placed) Error() string {
	return strconv.Itoa(p.at.Line) + ":" + strconv.Itoa(p.at.Col) + ": " + p.err.Error()
}

func (p placed) Unwrap() error {
	return p.err
}

// wrapped is what a layer below has said as an error value: none of OK.
func wrapped(at api.Pos, e api.Errno) error {
	if e == api.OK {
		return nil
	}
	return placed{at, number(e)}
}

// asked tells the place and the number that an error has, however it is wrapped; of none the zero Pos and OK.
func asked(err error) (at api.Pos, e api.Errno) {
	var p placed
	if errors.As(err, &p) {
		at = p.at
	}
	var n number
	if errors.As(err, &n) {
		e = api.Errno(n)
	}
	return at, e
}
