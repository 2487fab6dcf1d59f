package pack_test

import (
	"bytes"
	"encoding/binary"
	"math"
	"strings"
	"testing"

	"squinch/api"
	"squinch/pack"
)

// call is one way to read an item, and the item that must come of it.
type call struct {
	name string
	read func(r *pack.Reader) any
	zero any
}

func num() call  { return call{"Num", func(r *pack.Reader) any { return r.Num() }, uint64(0)} }
func sint() call { return call{"Int", func(r *pack.Reader) any { return r.Int() }, int64(0)} }
func flag() call { return call{"Flag", func(r *pack.Reader) any { return r.Flag() }, false} }
func text() call { return call{"Text", func(r *pack.Reader) any { return r.Text() }, ""} }
func count(most int) call {
	return call{"Count", func(r *pack.Reader) any { return r.Count(most) }, 0}
}

func allCalls() []call { return []call{num(), sint(), count(math.MaxInt), flag(), text()} }

// checkItem reads b behind two other bytes, so that offsets are seen to count from the start.
func checkItem(t *testing.T, c call, b string, want any, size int) {
	t.Helper()
	r := pack.Read([]byte("\x05\x06" + b))
	r.Num()
	r.Num()
	if v := c.read(r); v != want {
		t.Errorf("%s of %q = %v, want %v", c.name, b, v, want)
	}
	if at, e := r.Err(); at != 0 || e != api.OK {
		t.Errorf("%s of %q: Err = %d, %d", c.name, b, at, e)
	}
	if left := r.Left(); left != len(b)-size {
		t.Errorf("%s of %q: %d bytes left, want %d", c.name, b, left, len(b)-size)
	}
}

func checkError(t *testing.T, c call, b string, want api.Errno) {
	t.Helper()
	r := pack.Read([]byte("\x05\x06" + b))
	r.Num()
	r.Num()
	if v := c.read(r); v != c.zero {
		t.Errorf("%s of %q = %v, want %v", c.name, b, v, c.zero)
	}
	if at, e := r.Err(); at != 2 || e != want {
		t.Errorf("%s of %q: Err = %d, %d, want 2, %d", c.name, b, at, e, want)
	}
	if at, e := r.End(); at != 2 || e != want {
		t.Errorf("%s of %q: End = %d, %d, want 2, %d", c.name, b, at, e, want)
	}
	if left := r.Left(); left != len(b) {
		t.Errorf("%s of %q: %d bytes left, want %d", c.name, b, left, len(b))
	}
}

func nines(last string) string { return strings.Repeat("\xff", 9) + last }

// P1.3
func TestNumAndInt(t *testing.T) {
	for _, x := range []struct {
		b    string
		num  uint64
		size int
	}{
		{"\x00", 0, 1}, {"\x05", 5, 1}, {"\x7f", 127, 1}, {"\x80\x01", 128, 2}, {"\xac\x02", 300, 2},
		{"\x80\x80\x01", 16384, 3}, {strings.Repeat("\x80", 9) + "\x01", 1 << 63, 10},
		{nines("\x01"), math.MaxUint64, 10}, {"\x00\x00", 0, 1}, {"\xac\x02\xff", 300, 2},
		{strings.Repeat("\xff", 8) + "\x7f", 1<<63 - 1, 9}, {nines("\x01\xff"), math.MaxUint64, 10},
	} {
		checkItem(t, num(), x.b, x.num, x.size)
		checkItem(t, sint(), x.b, pack.Zag(x.num), x.size)
	}
}

// badNumbers are the errors of Num, which Int, Count and Text have as well.
func badNumbers() map[string]api.Errno {
	return map[string]api.Errno{
		"":                                   api.ErrPackShort,
		"\x80":                               api.ErrPackShort,
		"\xff\x80":                           api.ErrPackShort,
		nines(""):                            api.ErrPackShort,
		"\x80\x00":                           api.ErrPackForm,
		"\x80\x00\x01":                       api.ErrPackForm,
		"\x81\x00":                           api.ErrPackForm,
		"\xff\x80\x00":                       api.ErrPackForm,
		nines("\x00"):                        api.ErrPackForm,
		nines("\x02"):                        api.ErrPackForm,
		nines("\x7f"):                        api.ErrPackForm,
		nines("\x80"):                        api.ErrPackForm,
		nines("\x81"):                        api.ErrPackForm,
		nines("\xff"):                        api.ErrPackForm,
		nines("\x80\x00"):                    api.ErrPackForm,
		nines("\xff\x01"):                    api.ErrPackForm,
		strings.Repeat("\x80", 10) + "\x01":  api.ErrPackForm,
		strings.Repeat("\x80", 9) + "\x00":   api.ErrPackForm,
		strings.Repeat("\x80", 40) + "\x01a": api.ErrPackForm,
	}
}

// P1.3
func TestBadNumbers(t *testing.T) {
	for b, e := range badNumbers() {
		for _, c := range []call{num(), sint(), count(math.MaxInt), count(-1), text()} {
			checkError(t, c, b, e)
		}
	}
}

// P1.3, P1.5: every short sequence of telling bytes, compared with another decoder.
func TestNumOfAnyBytes(t *testing.T) {
	tail := []byte{0, 1, 2, 0x7f, 0x80, 0x81, 0xff}
	for _, lead := range []int{0, 1, 7, 8, 9, 10} {
		for _, a := range tail {
			for _, b := range tail {
				for _, c := range tail {
					whole := append(bytes.Repeat([]byte{0x80}, lead), a, b, c)
					for n := range len(whole) + 1 {
						checkNumber(t, whole[:n])
					}
				}
			}
		}
	}
}

func checkNumber(t *testing.T, b []byte) {
	t.Helper()
	want, size, wrong := uint64(0), 0, api.OK
	v, n := binary.Uvarint(b)
	switch {
	case n == 0 && len(b) < 10:
		wrong = api.ErrPackShort
	case n <= 0 || len(binary.AppendUvarint(nil, v)) != n:
		wrong = api.ErrPackForm
	default:
		want, size = v, n
	}
	// b may be a piece of a longer array, whose next bytes would go on with the number.
	r := pack.Read(b)
	got := r.Num()
	at, e := r.Err()
	if got != want || e != wrong || at != 0 || r.Left() != len(b)-size {
		t.Errorf("Num of %v = %d, %d left, %d at %d; want %d, %d left, %d at 0", b, got, r.Left(), e, at, want, len(b)-size, wrong)
	}
}

// P1.3
func TestCount(t *testing.T) {
	for _, x := range []struct {
		b    string
		most int
		want int
	}{
		{"\x00", 0, 0}, {"\x00", math.MaxInt, 0}, {"\x00abc", 0, 0}, {"\x03abc", 3, 3}, {"\x03abc", math.MaxInt, 3},
		{"\x03abcdef", 3, 3}, {"\x02abc", 9, 2},
	} {
		checkItem(t, count(x.most), x.b, x.want, 1)
	}
	checkItem(t, count(300), "\xac\x02"+strings.Repeat("a", 300), 300, 2)
}

// P1.3
func TestCountTooBig(t *testing.T) {
	for _, x := range []struct {
		b    string
		most int
	}{
		{"\x03abc", 2}, {"\x03abcdef", 2}, {"\x01a", 0},
		{"\x03ab", 3}, {"\x03ab", math.MaxInt}, {"\x01", 1},
		{"\x03", 1}, {"\x00", -1}, {"\x00abc", math.MinInt}, {"\x01a", -1},
		{nines("\x01") + "abc", math.MaxInt}, {strings.Repeat("\x80", 9) + "\x01abc", math.MaxInt},
		{strings.Repeat("\xff", 8) + "\x7fabc", math.MaxInt},
		{"\xac\x02" + strings.Repeat("a", 299), 300}, {"\xac\x02" + strings.Repeat("a", 300), 299},
	} {
		checkError(t, count(x.most), x.b, api.ErrPackBig)
	}
}

// P1.3
func TestFlag(t *testing.T) {
	checkItem(t, flag(), "\x00", false, 1)
	checkItem(t, flag(), "\x01", true, 1)
	checkItem(t, flag(), "\x01\x00", true, 1)
	checkError(t, flag(), "", api.ErrPackShort)
	for b := 2; b < 256; b++ {
		checkError(t, flag(), string([]byte{byte(b)}), api.ErrPackForm)
	}
}

func encoded(s string) string { return string(pack.Var(uint64(len(s)))) + s }

// P1.3
func TestValidTexts(t *testing.T) {
	for _, s := range []string{
		"", "a", "é", "a\x00b", "\n", "\x7f", "\u0080", "\u07ff", "\u0800", "\ud7ff", "\ue000", "\ufffd", "\uffff",
		"\U00010000", "\U0010ffff", "日本語", strings.Repeat("a", 128),
		strings.Repeat("a", 4095), strings.Repeat("a", 4096), strings.Repeat("é", 2048), strings.Repeat("\U0010ffff", 1024),
	} {
		checkItem(t, text(), encoded(s), s, len(encoded(s)))
		checkItem(t, text(), encoded(s)+"\xff", s, len(encoded(s)))
	}
}

// P1.3
func TestTextsThatAreNotUTF8(t *testing.T) {
	for _, s := range []string{
		"\x80", "\xbf", "\xff", "\xfe", "a\x80", "\xc3", "\xe2\x82", "\xf0\x90\x80", "\xc3a", "\xe2\x82a", "é\xa9",
		"\xc0\x80", "\xc1\xbf", "\xe0\x80\x80", "\xe0\x9f\xbf", "\xf0\x80\x80\x80", "\xf0\x8f\xbf\xbf",
		"\xed\xa0\x80", "\xed\xaf\xbf", "\xed\xb0\x80", "\xed\xbf\xbf", "\xed\xa0\x80\xed\xb0\x80",
		"\xf4\x90\x80\x80", "\xf4\xbf\xbf\xbf", "\xf5\x80\x80\x80", "\xf8\x88\x80\x80\x80",
		strings.Repeat("a", 4095) + "\x80", strings.Repeat("a", 4095) + "\xc3",
	} {
		checkError(t, text(), encoded(s), api.ErrPackForm)
		checkError(t, text(), encoded(s)+"\xa9", api.ErrPackForm)
	}
}

// P1.3: too long before too few bytes, and too few bytes before invalid ones.
func TestOrderOfTextErrors(t *testing.T) {
	long := strings.Repeat("a", 4097)
	for _, x := range []struct {
		b string
		e api.Errno
	}{
		{encoded(long), api.ErrPackBig}, {encoded(strings.Repeat("\xff", 4097)), api.ErrPackBig},
		{"\x81\x20", api.ErrPackBig}, {nines("\x01"), api.ErrPackBig}, {nines("\x01") + long, api.ErrPackBig},
		{strings.Repeat("\xff", 8) + "\x7fa", api.ErrPackBig},
		{"\x80\x20", api.ErrPackShort}, {"\x80\x20" + long[:4095], api.ErrPackShort},
		{"\x01", api.ErrPackShort}, {"\x03ab", api.ErrPackShort}, {"\x03\xff\xff", api.ErrPackShort},
		{"\x02\xc3", api.ErrPackShort},
	} {
		checkError(t, text(), x.b, x.e)
	}
}

// P1.3, P1.4: the first error stays, whatever is called.
func TestAfterTheFirstError(t *testing.T) {
	for _, bad := range []struct {
		c call
		b string
		e api.Errno
	}{
		{num(), "\x80", api.ErrPackShort}, {num(), "\x80\x00\x01\x01a", api.ErrPackForm},
		{sint(), "\x80\x00\x01\x01a", api.ErrPackForm}, {count(0), "\x01\x01\x01a", api.ErrPackBig},
		{flag(), "\x02ab", api.ErrPackForm}, {flag(), "", api.ErrPackShort},
		{text(), "\x01\xff\x01\x01\x01a", api.ErrPackForm}, {text(), "\x02a", api.ErrPackShort},
		{text(), "\x81\x20a", api.ErrPackBig},
	} {
		r := pack.Read([]byte("\x05" + bad.b))
		r.Num()
		bad.c.read(r)
		for range 2 {
			for _, c := range allCalls() {
				if v := c.read(r); v != c.zero {
					t.Errorf("%s after %s of %q = %v", c.name, bad.c.name, bad.b, v)
				}
				at, e := r.Err()
				endAt, endE := r.End()
				if at != 1 || e != bad.e || endAt != 1 || endE != bad.e || r.Left() != len(bad.b) {
					t.Errorf("%s after %s of %q: Err %d, %d; End %d, %d; %d left", c.name, bad.c.name, bad.b, at, e, endAt, endE, r.Left())
				}
			}
		}
	}
}

// P1.4: an error at the first byte is told apart from none by its number alone.
func TestErrorAtTheStart(t *testing.T) {
	for _, c := range allCalls() {
		r := pack.Read(nil)
		if v := c.read(r); v != c.zero {
			t.Errorf("%s of nothing = %v", c.name, v)
		}
		if at, e := r.Err(); at != 0 || e != api.ErrPackShort {
			t.Errorf("%s of nothing: Err = %d, %d", c.name, at, e)
		}
		if at, e := r.End(); at != 0 || e != api.ErrPackShort {
			t.Errorf("%s of nothing: End = %d, %d", c.name, at, e)
		}
	}
}

// P1.4
func TestEnd(t *testing.T) {
	r := pack.Read([]byte{7, 172, 2, 1})
	for _, x := range []struct {
		at   int
		e    api.Errno
		left int
	}{{0, api.ErrPackMore, 4}, {1, api.ErrPackMore, 3}, {3, api.ErrPackMore, 1}, {0, api.OK, 0}} {
		if at, e := r.End(); at != x.at || e != x.e || r.Left() != x.left {
			t.Errorf("End = %d, %d with %d left; want %d, %d with %d", at, e, r.Left(), x.at, x.e, x.left)
		}
		if at, e := r.Err(); at != 0 || e != api.OK {
			t.Errorf("Err = %d, %d: End made an error", at, e)
		}
		if x.left > 0 {
			r.Num()
		}
	}
	for _, b := range [][]byte{nil, {}} {
		if at, e := pack.Read(b).End(); at != 0 || e != api.OK {
			t.Errorf("End of nothing = %d, %d", at, e)
		}
	}
}

// P1.5, and the rule that arguments are not retained.
func TestReaderKeepsToItsBytes(t *testing.T) {
	whole := []byte{3, 'a', 'b', 'c', 0x80, 0x01}
	for _, x := range []struct {
		n int
		c call
	}{{0, num()}, {0, flag()}, {3, text()}, {3, count(9)}} {
		r := pack.Read(whole[:x.n])
		if v, left := x.c.read(r), r.Left(); v != x.c.zero || left != x.n {
			t.Errorf("%s of %v = %v, %d left", x.c.name, whole[:x.n], v, left)
		}
	}
	if r := pack.Read(whole[4:5]); r.Num() != 0 || r.Left() != 1 {
		t.Error("Num read beyond its bytes")
	}
	if want := []byte{3, 'a', 'b', 'c', 0x80, 0x01}; !bytes.Equal(whole, want) {
		t.Errorf("the argument was changed: %v", whole)
	}
	r := pack.Read(whole)
	for i := range whole {
		whole[i] = 0xff
	}
	if s, v := r.Text(), r.Num(); s != "abc" || v != 128 {
		t.Errorf("%q, %d after the argument was changed", s, v)
	}
}

// Readers share nothing.
func TestReadersAreIndependent(t *testing.T) {
	b := []byte{2, 3}
	x, y := pack.Read(b), pack.Read(b)
	x.Flag()
	if v := y.Num(); v != 2 {
		t.Errorf("Num = %d", v)
	}
	if _, e := y.Err(); e != api.OK {
		t.Errorf("Err = %d", e)
	}
}
