package code

import (
	"strconv"
	"strings"

	"squinch/api"
)

const (
	space   = " "
	decimal = 10
	numBits = 64
)

// Show encodes instructions as text.
func Show(l ...api.Instr) (string, api.Errno) {
	var b strings.Builder
	e := each(l, func(i api.Instr, _ int, o operator) {
		b.WriteString(o.name)
		switch {
		case o.has == number:
			b.WriteString(space + strconv.FormatInt(i.N, decimal))
		case o.has.isText():
			b.WriteString(space + i.S)
		}
		b.WriteString(lineFeed)
	})
	if e != api.OK {
		return "", e
	}
	return b.String(), api.OK
}

// Read decodes instructions from text.
func Read(s string) ([]api.Instr, api.Errno) {
	var l []api.Instr
	for line := range strings.Lines(s) {
		i := guess(line)
		// Only a line that is written in the one right way comes back.
		if whole, e := Show(i); e != api.OK || whole != line {
			return nil, api.ErrCodeForm
		}
		l = append(l, i)
	}
	return l, api.OK
}

// guess returns the only instruction of which a line can be the encoding. Whether it is one is left to Show, so nothing is refused here: not an operand that lacks or is too much, nor a number that ParseInt cannot tell or takes in another form.
func guess(line string) api.Instr {
	name, rest, _ := strings.Cut(strings.TrimSuffix(line, lineFeed), space)
	_, o, _ := named(name)
	i := api.Instr{Op: o.name}
	switch {
	case o.has == number:
		i.N, _ = strconv.ParseInt(rest, decimal, numBits)
	case o.has.isText():
		// A piece of the argument must not be kept alive by the result.
		i.S = strings.Clone(rest)
	}
	return i
}
