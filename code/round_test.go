package code_test

import (
	"math/rand"
	"slices"
	"strings"
	"testing"

	"squinch/api"
	"squinch/code"
	"squinch/pack"
)

// some returns instructions of every operator, drawn by a fixed seed.
func some(r *rand.Rand, n int) []api.Instr {
	pick := func(l ...string) string { return l[r.Intn(len(l))] }
	class := func() string { return pick("A", "Node", "N9", strings.Repeat("Z", 32)) }
	texts := map[string]func() string{
		"word": func() string {
			return pick("", " ", "a b", "é", "\r", "\x00", strings.Repeat("é", 32), "add", "日本語")
		},
		"new":   class,
		"is":    func() string { return pick(class(), class()+"[]", "int[]", "text[][][]") },
		"cast":  func() string { return pick(class(), class()+"[][][]", "bool[][]") },
		"array": func() string { return pick(class(), class()+"[][]", "int", "bool[]", "text[][]") },
		"get":   func() string { return class() + pick(".a", ".next", "."+strings.Repeat("z", 32)) },
	}
	texts["put"], texts["call"] = texts["get"], texts["get"]
	ops := allOps()
	l := make([]api.Instr, 0, n)
	for range n {
		o := ops[r.Intn(len(ops))]
		i := api.Instr{Op: o.name}
		if o.number {
			i.N = int64(r.Uint64()) >> r.Intn(64)
		}
		if o.text {
			i.S = texts[o.name]()
		}
		l = append(l, i)
	}
	return l
}

// P4.4
func TestDecodingUndoesEncoding(t *testing.T) {
	r := rand.New(rand.NewSource(1))
	for n := range 1000 {
		l := some(r, n%201)
		want := slices.Clone(l)
		b, e := code.Put(l...)
		if got, f := code.Get(b); e != api.OK || f != api.OK || !slices.Equal(got, want) {
			t.Fatalf("bytes of %q: %d, %d, %q", show(l), e, f, show(got))
		}
		if got := code.Take(pack.Read(b)); !slices.Equal(got, want) {
			t.Fatalf("Take of the bytes of %q: %q", show(l), show(got))
		}
		s, e := code.Show(l...)
		if got, f := code.Read(s); e != api.OK || f != api.OK || !slices.Equal(got, want) {
			t.Fatalf("text of %q: %d, %d, %q", show(l), e, f, show(got))
		}
		if !slices.Equal(l, want) {
			t.Fatalf("%q became %q", show(want), show(l))
		}
	}
}

// P4.4, the other way: whatever is decoded has the encoding that was given, and all else has an error.
func TestEncodingUndoesDecoding(t *testing.T) {
	r := rand.New(rand.NewSource(2))
	right := 0
	for range 20000 {
		l := some(r, 1+r.Intn(6))
		b, _ := code.Put(l...)
		s, _ := code.Show(l...)
		right += checkDamaged(t, damage(r, b), damage(r, []byte(s)))
	}
	if right < 1000 {
		t.Errorf("only %d of the damaged ones are encodings", right)
	}
}

// damage returns a copy with a byte changed, left out, or added.
func damage(r *rand.Rand, b []byte) []byte {
	at := r.Intn(len(b))
	v := byte(r.Intn(256))
	if r.Intn(2) == 0 {
		v = b[r.Intn(len(b))]
	}
	switch r.Intn(3) {
	case 0:
		b = slices.Clone(b)
		b[at] = v
		return b
	case 1:
		return slices.Delete(slices.Clone(b), at, at+1)
	}
	return slices.Insert(slices.Clone(b), at, v)
}

func checkDamaged(t *testing.T, b, s []byte) int {
	t.Helper()
	right := 0
	l, e := code.Get(b)
	if again, f := code.Put(l...); e == api.OK && (f != api.OK || string(again) != string(b)) || e != api.OK && (e != api.ErrCodeForm || len(l) != 0) {
		t.Errorf("Get(%q) = %q, %d, whose encoding is %q, %d", b, show(l), e, again, f)
	}
	if want, ok := model(b); ok != (e == api.OK) || !slices.Equal(l, want) {
		t.Errorf("Get(%q) = %q, %d, want %q", b, show(l), e, show(want))
	}
	if e == api.OK {
		right++
	}
	l, e = code.Read(string(s))
	if again, f := code.Show(l...); e == api.OK && (f != api.OK || again != string(s)) || e != api.OK && (e != api.ErrCodeForm || len(l) != 0) {
		t.Errorf("Read(%q) = %q, %d, whose encoding is %q, %d", s, show(l), e, again, f)
	}
	if e == api.OK {
		right++
	}
	return right
}

// P1: arguments of any size.
func TestLongArguments(t *testing.T) {
	for _, s := range []string{"\x00", "\x01", "\x0a", "\x7f", "\x80", "\xc8\x01", "\xff", "a", " ", "\n", "add ", "int ", "word ", "é", "add\nnop\n"} {
		whole := strings.Repeat(s, 1<<18)
		checkNoBytes(t, whole)
		checkNoBytes(t, "\xc8\x01"+whole)
		checkNoText(t, whole)
		checkNoText(t, "add\n"+whole)
		check(t, checked{api.Instr{Op: whole, S: whole}, api.ErrCodeOp})
		check(t, checked{api.Instr{Op: "word", S: whole}, api.ErrCodeArg})
	}
}
