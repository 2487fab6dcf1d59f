package pack_test

import (
	"math"
	"math/rand"
	"strings"
	"testing"

	"squinch/api"
	"squinch/pack"
)

// entry is an item that was written: where it ends, and how it is read.
type entry struct {
	end  int
	want any
	call call
}

// writeSome writes items of all sorts; where they come from is fixed, so that each run is the same.
func writeSome(dice *rand.Rand, n int) ([]byte, []entry) {
	w := pack.Write()
	var l []entry
	for range n {
		var x entry
		switch dice.Intn(4) {
		case 0:
			v := dice.Uint64() >> dice.Intn(64)
			w.Num(v)
			x = entry{want: v, call: num()}
		case 1:
			v := int64(dice.Uint64()) >> dice.Intn(64)
			w.Int(v)
			x = entry{want: v, call: sint()}
		case 2:
			f := dice.Intn(2) == 1
			w.Flag(f)
			x = entry{want: f, call: flag()}
		default:
			s := strings.Repeat(string(rune(dice.Intn(0xd800))), dice.Intn(60))
			w.Text(s)
			x = entry{want: s, call: text()}
		}
		x.end = len(w.Bytes())
		l = append(l, x)
	}
	return w.Bytes(), l
}

// P1.5
func TestReadingGivesWhatWasWritten(t *testing.T) {
	dice := rand.New(rand.NewSource(1))
	for range 200 {
		b, l := writeSome(dice, 20)
		r := pack.Read(b)
		for i, x := range l {
			if v := x.call.read(r); v != x.want || r.Left() != len(b)-x.end {
				t.Fatalf("item %d: %s = %v, want %v", i, x.call.name, v, x.want)
			}
		}
		if at, e := r.End(); at != 0 || e != api.OK {
			t.Fatalf("End = %d, %d", at, e)
		}
	}
}

// P1.3 to P1.5: bytes that are cut off give the items ahead of the cut, and then one error.
func TestReadingWhatWasCutOff(t *testing.T) {
	dice := rand.New(rand.NewSource(2))
	b, l := writeSome(dice, 40)
	for n := range len(b) {
		r := pack.Read(b[:n])
		begin := 0
		for _, x := range l {
			v := x.call.read(r)
			if x.end > n {
				if v != x.call.zero {
					t.Fatalf("cut at %d: %s = %v", n, x.call.name, v)
				}
				continue
			}
			begin = x.end
			if v != x.want {
				t.Fatalf("cut at %d: %s = %v, want %v", n, x.call.name, v, x.want)
			}
		}
		if at, e := r.Err(); at != begin || e != api.ErrPackShort {
			t.Fatalf("cut at %d: Err = %d, %d, want %d, %d", n, at, e, begin, api.ErrPackShort)
		}
	}
}

// P1 and P1.3: whatever the bytes and the calls, the reader goes forward within its bytes or stops for good.
func TestAnyCallsOnAnyBytes(t *testing.T) {
	dice := rand.New(rand.NewSource(3))
	calls := append(allCalls(), count(0), count(3), count(-1), count(math.MinInt))
	for range 20000 {
		b := make([]byte, dice.Intn(24))
		for i := range b {
			b[i] = []byte{0, 1, 2, 3, 0x41, 0x7f, 0x80, 0xc3, 0xff}[dice.Intn(9)]
		}
		r := pack.Read(b)
		for range 8 {
			_, before := r.Err()
			left := r.Left()
			c := calls[dice.Intn(len(calls))]
			v := c.read(r)
			at, e := r.Err()
			moved := r.Left() < left && r.Left() >= 0
			stopped := e != api.OK && r.Left() == left && at == len(b)-left && v == c.zero && (before == api.OK || e == before)
			if e == api.OK && !moved || e != api.OK && !stopped {
				t.Fatalf("%s in %v with %d left: %v, %d left, %d at %d", c.name, b, left, v, r.Left(), e, at)
			}
		}
	}
}

// The limits of the chapter, through the writer and the reader.
func TestTextsAtTheLimit(t *testing.T) {
	for n, want := range map[int]api.Errno{4095: api.OK, 4096: api.OK, 4097: api.ErrPackBig, 8192: api.ErrPackBig} {
		s := strings.Repeat("x", n)
		w := pack.Write()
		w.Text(s)
		r := pack.Read(w.Bytes())
		got := r.Text()
		_, e := r.End()
		if e != want || (want == api.OK) != (got == s) || want != api.OK && got != "" {
			t.Errorf("text of %d bytes: %d bytes came, error %d, want %d", n, len(got), e, want)
		}
	}
}
