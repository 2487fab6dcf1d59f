package class_test

import (
	"bytes"
	"fmt"
	"math"
	"math/rand"
	"reflect"
	"slices"
	"strings"
	"testing"

	"squinch/api"
	"squinch/class"
)

// show tells classes in a message, without the rest of long ones.
func show(v any) string { return fmt.Sprintf("%.200q", fmt.Sprintf("%+v", v)) }

func checkNoBytes(t *testing.T, b string) {
	t.Helper()
	if c, e := class.Get([]byte(b)); !reflect.DeepEqual(c, api.Class{}) || e != api.ErrClassForm {
		t.Errorf("Get(%.200q) = %s, %d, want error %d", b, show(c), e, api.ErrClassForm)
	}
}

func checkNoClasses(t *testing.T, b string) {
	t.Helper()
	if l, e := class.Unpack([]byte(b)); len(l) != 0 || e != api.ErrClassForm {
		t.Errorf("Unpack(%.200q) = %s, %d, want error %d", b, show(l), e, api.ErrClassForm)
	}
}

// checkGet compares Get and Unpack with the second decoders, on bytes that may be anything.
func checkGet(t *testing.T, b string) bool {
	t.Helper()
	want, valid := decode(b)
	if c, e := class.Get([]byte(b)); valid && (!alike(c, want) || e != api.OK) {
		t.Errorf("Get(%.200q) = %s, %d, want %s", b, show(c), e, show(want))
	}
	if !valid {
		checkNoBytes(t, b)
	}
	checkUnpack(t, b)
	checkUnpack(t, "\x01"+b)
	return valid
}

func checkUnpack(t *testing.T, b string) {
	t.Helper()
	want, valid := decodeAll(b)
	if l, e := class.Unpack([]byte(b)); valid && (!slices.EqualFunc(l, want, alike) || e != api.OK) {
		t.Errorf("Unpack(%.200q) = %s, %d, want %s", b, show(l), e, show(want))
	}
	if !valid {
		checkNoClasses(t, b)
	}
}

// encoded is a class and its encoding.
type encoded struct {
	c api.Class
	b string
}

func examples() []encoded {
	return []encoded{
		{least(), "\x01A\x01B\x00\x00\x00\x00\x00\x00"},
		{
			node(), "\x04Node\x04Base\x02\x04Seen\x04Told\x00\x00\x00" +
				"\x02\x04next\x04Node\x00\x01n\x07int[][]\x01" +
				"\x02\x02go\x02\x03int\x06Node[]\x04text\x00\x04\x04\x05\x02\x03\x02é\x1b\x07Node.go\x21\x02\x00\x03\x03\x05Fault\x01\x04\x00\x09ZeroFault" +
				"\x04stop\x00\x00\x00\x01\x01\x21\x00",
		},
		{seen(), "\x04Seen\x06Object\x01\x04Told\x01\x01\x00\x00\x02\x03see\x01\x04text\x00\x01\x04look\x00\x03int\x01"},
		{
			api.Class{Name: "A", Super: "B", Abstract: true, Methods: []api.Method{
				{Name: "a", Params: []string{"A"}, Result: "A", Abstract: true},
				{Name: "b", Locals: 64, Code: instrs(1), Catches: []api.Catch{{From: 0, To: 1, At: 0, Class: "C"}}},
				{Name: "c", Abstract: true},
			}},
			"\x01A\x01B\x00\x00\x01\x00\x00\x03\x01a\x01\x01A\x01A\x01\x01b\x00\x00\x00\x40\x01\x21\x01\x00\x01\x00\x01C\x01c\x00\x00\x01",
		},
		{
			api.Class{Name: "A", Super: "B", Final: true, Methods: []api.Method{
				{Name: "a", Locals: 1, Code: instrs(200), Catches: []api.Catch{{From: 127, To: 200, At: 128, Class: "C"}}},
			}},
			"\x01A\x01B\x00\x00\x00\x01\x00\x01\x01a\x00\x00\x00\x01\xc8\x01" + strings.Repeat("\x21", 200) + "\x01\x7f\xc8\x01\x80\x01\x01C",
		},
	}
}

// P5.2
func TestBytes(t *testing.T) {
	for _, x := range examples() {
		check(t, x.c.Name, x.c, api.OK)
		if b, e := class.Put(x.c); string(b) != x.b || e != api.OK {
			t.Errorf("Put(%+v) = %q, %d, want %q", x.c, b, e, x.b)
		}
		if c, e := class.Get([]byte(x.b)); !alike(c, x.c) || e != api.OK {
			t.Errorf("Get(%q) = %+v, %d, want %+v", x.b, c, e, x.c)
		}
	}
}

// P5.2: the flags of a class, all of them.
func TestFlags(t *testing.T) {
	for n := range 8 {
		i, a, f := n&4 != 0, n&2 != 0, n&1 != 0
		b := "\x01A\x06Object\x00" + flag(i) + flag(a) + flag(f) + "\x00\x00"
		c := api.Class{Name: "A", Super: "Object", Interface: i, Abstract: a, Final: f}
		if a && f || i && !a {
			check(t, fmt.Sprint(i, a, f), c, api.ErrClassForm)
			continue
		}
		check(t, fmt.Sprint(i, a, f), c, api.OK)
		if d, e := class.Get([]byte(b)); !alike(c, d) || e != api.OK {
			t.Errorf("Get(%q) = %+v, %d", b, d, e)
		}
	}
}

// P5.2
func TestBytesThatAreTooFewOrTooMany(t *testing.T) {
	for _, x := range examples() {
		for n := range len(x.b) {
			checkNoBytes(t, x.b[:n])
			checkNoClasses(t, "\x01"+x.b[:n])
			checkNoClasses(t, "\x02"+x.b+x.b[:n])
		}
		for _, more := range []string{"\x00", "\x01", "\x21", "\xff", x.b} {
			checkNoBytes(t, x.b+more)
			checkNoClasses(t, "\x01"+x.b+more)
			checkNoClasses(t, "\x02"+x.b+x.b+more)
		}
		checkNoBytes(t, x.b[1:])
		checkNoBytes(t, "\x01"+x.b)
		checkNoClasses(t, x.b)
	}
	checkNoBytes(t, "")
	checkNoClasses(t, "")
}

// P5.2: numbers and flags that are written in another form than the one right one.
func TestNumbersAndFlagsInAnotherForm(t *testing.T) {
	piece := func(like, flags, fields, methods string) string {
		return "\x01A\x01B" + like + flags + fields + methods
	}
	method := func(params, flag, locals, codes, catches string) string {
		return piece("\x00", "\x00\x01\x00", "\x00", "\x01\x01a"+params+"\x00"+flag+locals+codes+catches)
	}
	for _, b := range []string{
		piece("\x00", "\x00\x00\x00", "\x00", "\x00"), piece("\x00", "\x00\x00\x00", "\x01\x01n\x03int\x01", "\x00"),
		method("\x00", "\x00", "\x01", "\x01\x21", "\x00"), method("\x00", "\x01", "", "", ""), method("\x00", "\x00", "\x02", "\x01\x00\x00", "\x01\x00\x01\x00\x01C"),
	} {
		if c, e := class.Get([]byte(b)); c.Name != "A" || e != api.OK {
			t.Errorf("Get(%q) = %+v, %d", b, c, e)
		}
	}
	for _, b := range []string{
		"\x81\x00A\x01B\x00\x00\x00\x00\x00\x00", "\x01A\x81\x00B\x00\x00\x00\x00\x00\x00",
		piece("\x80\x00", "\x00\x00\x00", "\x00", "\x00"), piece("\x00", "\x00\x00\x00", "\x80\x00", "\x00"), piece("\x00", "\x00\x00\x00", "\x00", "\x80\x00"),
		piece("\x81\x00\x01C", "\x00\x00\x00", "\x00", "\x00"), piece("\x01\x81\x00C", "\x00\x00\x00", "\x00", "\x00"),
		piece("\x00", "\x02\x00\x00", "\x00", "\x00"), piece("\x00", "\x00\x02\x00", "\x00", "\x00"), piece("\x00", "\x00\x00\x02", "\x00", "\x00"),
		piece("\x00", "\xff\x00\x00", "\x00", "\x00"), piece("\x00", "\x00\xff\x00", "\x00", "\x00"), piece("\x00", "\x80\x00\x00\x00", "\x00", "\x00"), piece("\x00", "\x00\x00\x81\x00", "\x00", "\x00"),
		piece("\x00", "\x00\x00\x00", "\x01\x01n\x03int\x02", "\x00"), piece("\x00", "\x00\x00\x00", "\x01\x01n\x03int\x81\x00", "\x00"), piece("\x00", "\x00\x00\x00", "\x01\x81\x00n\x03int\x01", "\x00"),
		method("\x80\x00", "\x00", "\x01", "\x01\x21", "\x00"), method("\x00", "\x02", "", "", ""), method("\x00", "\x02", "\x01", "\x01\x21", "\x00"), method("\x00", "\x81\x00", "", "", ""), method("\x00", "\x80\x00", "\x01", "\x01\x21", "\x00"),
		method("\x00", "\x00", "\x81\x00", "\x01\x21", "\x00"), method("\x00", "\x00", "\x01", "\x81\x00\x21", "\x00"), method("\x00", "\x00", "\x01", "\x01\xa1\x00", "\x00"), method("\x00", "\x00", "\x01", "\x01\x00\x80\x00", "\x00"), method("\x00", "\x00", "\x01", "\x01\x21", "\x80\x00"),
		method("\x00", "\x00", "\x02", "\x01\x00\x00", "\x81\x00\x00\x01\x00\x01C"), method("\x00", "\x00", "\x02", "\x01\x00\x00", "\x01\x80\x00\x01\x00\x01C"), method("\x00", "\x00", "\x02", "\x01\x00\x00", "\x01\x00\x81\x00\x00\x01C"), method("\x00", "\x00", "\x02", "\x01\x00\x00", "\x01\x00\x01\x80\x00\x01C"), method("\x00", "\x00", "\x02", "\x01\x00\x00", "\x01\x00\x01\x00\x81\x00C"),
	} {
		checkNoBytes(t, b)
		checkNoClasses(t, "\x01"+b)
	}
	checkNoClasses(t, "\x80\x00")
	checkNoClasses(t, "\x81\x00"+encode(least()))
}

// P5.2: numbers whose lowest bits are those of a number that may be.
func TestNumbersThatAreTooGreat(t *testing.T) {
	for i := 7; i < 64; i++ {
		for _, v := range []uint64{1<<i + 1, 1<<i + 2, math.MaxUint64 - 1<<i + 3, math.MaxUint64} {
			n := num(v)
			for _, b := range []string{
				"\x01A\x01B" + n + "\x01C\x01D\x00\x00\x00\x00\x00",
				"\x01A\x01B\x00\x00\x00\x00" + n + "\x01a\x03int\x00\x01b\x03int\x00\x00",
				"\x01A\x01B\x00\x00\x01\x00\x00" + n + "\x01a\x00\x00\x01\x01b\x00\x00\x01",
				"\x01A\x01B\x00\x00\x00\x00\x00\x01\x01a\x00\x00\x00" + n + "\x01\x21\x00",
				"\x01A\x01B\x00\x00\x00\x00\x00\x01\x01a\x00\x00\x00\x01" + n + "\x21\x21\x00",
				"\x01A\x01B\x00\x00\x00\x00\x00\x01\x01a\x00\x00\x00\x01\x02\x21\x21" + n + "\x00\x01\x00\x01C\x00\x01\x00\x01C",
				"\x01A\x01B\x00\x00\x00\x00\x00\x01\x01a\x00\x00\x00\x01\x02\x21\x21\x01" + n + "\x02\x00\x01C",
				"\x01A\x01B\x00\x00\x00\x00\x00\x01\x01a\x00\x00\x00\x01\x02\x21\x21\x01\x00" + n + "\x00\x01C",
				"\x01A\x01B\x00\x00\x00\x00\x00\x01\x01a\x00\x00\x00\x01\x02\x21\x21\x01\x00\x02" + n + "\x01C",
			} {
				checkNoBytes(t, b)
				checkNoClasses(t, "\x01"+b)
			}
			checkNoClasses(t, n+encode(least())+encode(least()))
		}
	}
}

// P5.2: an instruction that is not valid is none, and so the method has no code.
func TestBytesWithInvalidInstructions(t *testing.T) {
	for _, codes := range []string{
		"\x00", "\x01\x2a", "\x01\xff\x01", "\x01\x18\x01n", "\x01\x19\x01A", "\x01\x03\x01\n", "\x01\x1c\x07A[][][]", "\x02\x21\x2a", "\x02\x2a\x21", "\xc9\x01" + strings.Repeat("\x21", 201),
	} {
		b := "\x01A\x01B\x00\x00\x00\x00\x00\x01\x01a\x00\x00\x00\x01" + codes + "\x00"
		checkNoBytes(t, b)
		checkNoClasses(t, "\x01"+b)
		checkNoBytes(t, b[:len(b)-1])
		checkNoBytes(t, b+"\x00")
	}
}

func many(n int) []api.Class {
	var l []api.Class
	for i := range n {
		l = append(l, samples()[i%5])
	}
	return l
}

// P5.2
func TestPack(t *testing.T) {
	for _, n := range []int{0, 1, 2, 3, 5, 63, 64} {
		l := many(n)
		want := string([]byte{byte(n)})
		for _, c := range l {
			want += encode(c)
		}
		b, e := class.Pack(l)
		if string(b) != want || e != api.OK {
			t.Errorf("Pack of %d classes: %d bytes, %d", n, len(b), e)
		}
		if got, e := class.Unpack([]byte(want)); !slices.EqualFunc(got, l, alike) || e != api.OK {
			t.Errorf("Unpack of %d classes: %d, %d", n, len(got), e)
		}
	}
	if b, e := class.Pack([]api.Class{}); string(b) != "\x00" || e != api.OK {
		t.Errorf("Pack of no classes = %q, %d", b, e)
	}
	for _, n := range []int{65, 66, 127, 128, 320, 1 << 10} {
		if b, e := class.Pack(many(n)); len(b) != 0 || e != api.ErrClassMany {
			t.Errorf("Pack of %d classes: %d bytes, %d", n, len(b), e)
		}
		checkNoClasses(t, encodeAll(many(n)))
	}
}

// P5.2: classes may be alike, and their names may be the same.
func TestPackOfClassesThatAreAlike(t *testing.T) {
	l := []api.Class{node(), node(), half(), node()}
	b, e := class.Pack(l)
	if got, f := class.Unpack(b); e != api.OK || f != api.OK || !slices.EqualFunc(got, l, alike) {
		t.Errorf("%d, %d: %+v", e, f, got)
	}
}

// P5.2: too many classes ahead of all else, and then the error of the first class that has one.
func TestFirstErrorOfPack(t *testing.T) {
	good, wrong := least(), api.Class{Name: "a"}
	big := turned(node(), func(c *api.Class) { c.Methods[0].Locals = 65 })
	for _, x := range []struct {
		l []api.Class
		e api.Errno
	}{
		{[]api.Class{wrong, big}, api.ErrClassForm}, {[]api.Class{big, wrong}, api.ErrClassMany},
		{[]api.Class{good, wrong, good, big}, api.ErrClassForm}, {[]api.Class{good, big, good, wrong}, api.ErrClassMany},
		{append(many(63), wrong), api.ErrClassForm}, {append(many(63), big), api.ErrClassMany},
		{append(many(64), wrong), api.ErrClassMany}, {append([]api.Class{wrong}, many(64)...), api.ErrClassMany},
		{make([]api.Class, 64), api.ErrClassForm}, {make([]api.Class, 65), api.ErrClassMany},
	} {
		if b, e := class.Pack(x.l); len(b) != 0 || e != x.e {
			t.Errorf("Pack of %d classes = %q, %d, want %d", len(x.l), b, e, x.e)
		}
		checkNoClasses(t, encodeAll(x.l))
	}
}

// P5.2, P5.4: every byte of an encoding, changed, left out and put in.
func TestDamagedBytes(t *testing.T) {
	valid := 0
	try := func(b string) {
		if checkGet(t, b) {
			valid++
		}
	}
	for _, x := range examples()[:4] {
		for n := range len(x.b) {
			for v := range 256 {
				try(x.b[:n] + string([]byte{byte(v)}) + x.b[n+1:])
				try(x.b[:n] + string([]byte{byte(v)}) + x.b[n:])
			}
			try(x.b[:n] + x.b[n+1:])
		}
	}
	if valid < 1000 {
		t.Errorf("only %d damaged encodings are others", valid)
	}
}

// P1, P5.2: bytes that are nearly an encoding, and bytes that are nothing.
func TestAnyBytes(t *testing.T) {
	dice := rand.New(rand.NewSource(3))
	l := examples()
	for range 20000 {
		b := []byte(l[dice.Intn(len(l))].b)
		for range 1 + dice.Intn(4) {
			b[dice.Intn(len(b))] = []byte{0, 1, 2, 3, 0x21, 0x41, 0x61, 0x80, 0xff}[dice.Intn(9)]
		}
		checkGet(t, string(b[:len(b)-dice.Intn(2)]))
		b = b[:dice.Intn(min(len(b), 40))]
		for i := range b {
			b[i] = byte(dice.Intn(4))
		}
		checkGet(t, string(b))
	}
}

// P1: bytes that promise much.
func TestLongBytes(t *testing.T) {
	for _, piece := range []string{"\x00", "\x01", "\x20", "\x21", "\x40", "A", "\xff", "\x80", "\x01A", "\x20\x01A", encode(least()), encode(node())} {
		b := strings.Repeat(piece, 1<<20/len(piece))
		checkNoBytes(t, b)
		checkNoClasses(t, b)
		checkNoClasses(t, "\x40"+b)
	}
}

// P5.4
func TestDecodingUndoesEncoding(t *testing.T) {
	for _, c := range append(samples(), most()) {
		b, e := class.Put(c)
		d, f := class.Get(b)
		if e != api.OK || f != api.OK || !alike(c, d) || !class.Same(c, d) {
			t.Errorf("%s: %d, %d", c.Name, e, f)
		}
	}
	l := slices.Repeat([]api.Class{most()}, 64)
	b, e := class.Pack(l)
	if got, f := class.Unpack(b); e != api.OK || f != api.OK || !slices.EqualFunc(got, l, class.Same) {
		t.Errorf("64 classes with most of everything: %d bytes, %d, %d", len(b), e, f)
	}
}

// spare returns a class of which each list has something behind its end.
func spare() api.Class {
	c := half()
	c.Like = append(c.Like, "x")[:2]
	c.Fields = append(c.Fields, api.Field{Name: "x"})[:2]
	m := &c.Methods[0]
	m.Params = append(m.Params, "x")[:2]
	m.Code = append(m.Code, api.Instr{Op: "x"})[:4]
	m.Catches = append(m.Catches, api.Catch{At: 9})[:2]
	c.Methods = append(c.Methods, api.Method{Name: "x"})[:3]
	return c
}

// uncut returns a class with all that is behind the ends of its lists.
func uncut(c api.Class) api.Class {
	c.Like, c.Fields, c.Methods = c.Like[:cap(c.Like)], c.Fields[:cap(c.Fields)], slices.Clone(c.Methods[:cap(c.Methods)])
	for i := range c.Methods {
		m := &c.Methods[i]
		m.Params, m.Code, m.Catches = m.Params[:cap(m.Params)], m.Code[:cap(m.Code)], m.Catches[:cap(m.Catches)]
	}
	return clone(c)
}

// The rule that arguments, with their unused capacity, are not modified.
func TestArgumentsAreLeft(t *testing.T) {
	c := spare()
	l := append(many(5), c)
	before, all := uncut(c), encodeAll(l)
	class.Check(c)
	class.Put(c)
	class.Pack(l[:5])
	class.Pack(l)
	class.Same(c, c)
	class.Sign(c.Methods[0])
	if !reflect.DeepEqual(uncut(c), before) || encodeAll(l) != all {
		t.Errorf("an argument was modified: %+v", c)
	}
	b := []byte(encode(c) + "\xee\xee")
	n := len(b) - 2
	class.Get(b[:n])
	class.Unpack(append([]byte{1}, b...)[:n+1])
	if string(b) != encode(c)+"\xee\xee" {
		t.Errorf("bytes were modified: %q", b)
	}
}

// The rule that results are new: nothing is shared with arguments, nor with other results.
func TestResultsAreNewMemory(t *testing.T) {
	c := half()
	b, _ := class.Put(c)
	all, _ := class.Pack([]api.Class{c, c})
	first, _ := class.Get(b)
	l, _ := class.Unpack(all)
	again, _ := class.Put(c)
	clear(b[:cap(b)])
	clear(all[:cap(all)])
	if string(again) != encode(c) || !alike(first, c) || len(l) != 2 || !alike(l[0], c) || !alike(l[1], c) {
		t.Error("a result was changed with another one")
	}
	wipe(&l[0])
	wipe(&first)
	if !alike(l[1], c) || !alike(c, half()) {
		t.Error("two classes share memory")
	}
	if again, _ := class.Put(c); !bytes.Equal(again, []byte(encode(c))) {
		t.Errorf("Put = %q after a result was changed", again)
	}
}

// wipe clears all of a class's lists, beyond their ends too.
func wipe(c *api.Class) {
	for _, m := range c.Methods {
		clear(m.Params[:cap(m.Params)])
		clear(m.Code[:cap(m.Code)])
		clear(m.Catches[:cap(m.Catches)])
	}
	clear(c.Like[:cap(c.Like)])
	clear(c.Fields[:cap(c.Fields)])
	clear(c.Methods[:cap(c.Methods)])
}

// The lists of one result share no memory, not even beyond their ends.
func TestListsOfOneResult(t *testing.T) {
	l, _ := class.Unpack([]byte(encodeAll([]api.Class{node(), half()})))
	for i := range l {
		_ = append(l[i].Like, "x")
		_ = append(l[i].Fields, api.Field{Name: "x"})
		_ = append(l[i].Methods, api.Method{Name: "x"})
		for _, m := range l[i].Methods {
			_ = append(m.Params, "x")
			_ = append(m.Code, api.Instr{Op: "x"})
			_ = append(m.Catches, api.Catch{At: 9})
		}
	}
	if len(l) != 2 || !alike(l[0], node()) || !alike(l[1], half()) {
		t.Errorf("%+v", l)
	}
}
