package vm_test

import (
	"fmt"
	"slices"
	"strings"
	"testing"
	"unsafe"

	"squinch/api"
	"squinch/heap"
	"squinch/vm"
)

// objects returns a heap with an A, a B, a C, a D, a U, an array of B, and a ZeroFault.
func objects(t testing.TB) *heap.Heap {
	t.Helper()
	h := empty(t, accepted(t, zoo(t)), 200)
	for _, class := range strings.Fields("A B C D U") {
		h.Object(class)
	}
	h.Array("B", 2)
	h.Object("ZeroFault")
	if h.Len() != 7 {
		t.Fatal(h.Cells())
	}
	return h
}

// P10.1: the current instruction is the first one of the method of the object's own class.
func TestNew(t *testing.T) {
	long := text(strings.Repeat("é", 2048))
	for _, x := range []struct {
		class, method string
		args          []api.Value
		where, locals string
	}{
		{"A", "who", []api.Value{ref(0)}, "A", "A"},
		{"A", "who", []api.Value{ref(1)}, "B", "B -"},
		{"A", "who", []api.Value{ref(2)}, "A", "C"},
		{"A", "who", []api.Value{ref(3)}, "B", "D -"},
		{"B", "who", []api.Value{ref(3)}, "B", "D -"},
		{"D", "who", []api.Value{ref(3)}, "B", "D -"},
		{"C", "who", []api.Value{ref(2)}, "A", "C"},
		{"I", "see", []api.Value{ref(1), text("")}, "B", "B text"},
		{"J", "see", []api.Value{ref(3), text("é")}, "D", "D text"},
		{"B", "see", []api.Value{ref(3), long}, "D", "D text"},
		{"T", "make", []api.Value{ref(4)}, "U", "U"},
		{"T", "twice", []api.Value{ref(4)}, "T", "U"},
		{"U", "twice", []api.Value{ref(4)}, "T", "U"},
		{"A", "id", []api.Value{ref(0), num(-5), null, text("")}, "A", "A int null text"},
		{"A", "id", []api.Value{ref(0), num(1 << 62), ref(0), text("x")}, "A", "A int A text"},
		{"A", "id", []api.Value{ref(1), num(0), ref(3), text("x")}, "A", "B int D text"},
		{"A", "both", []api.Value{ref(1), num(0), flag(1)}, "A", "B int bool"},
		{"A", "pass", []api.Value{ref(1), ref(6)}, "A", "B ZeroFault"},
		{"A", "pass", []api.Value{ref(1), null}, "A", "B null"},
	} {
		h := objects(t)
		m := begin(t, h, x.class, x.method, x.args...)
		class, method, at := m.Where()
		stack, locals := m.Kinds()
		if class != x.where || method != x.method || at != 0 || m.Deep() != 1 || len(stack) != 0 || show(locals) != x.locals {
			t.Errorf("%s.%s: %s.%s at %d, %d calls, %q, %q", x.class, x.method, class, method, at, m.Deep(), stack, locals)
		}
		if len(m.Outs()) != 0 || h.Len() != 7 {
			t.Errorf("%s.%s: began with %v, %d objects", x.class, x.method, m.Outs(), h.Len())
		}
		checkEnd(t, m, api.Ending{})
	}
}

// P10.1: ErrVmCall for a method that does not exist, an object or arguments that do not fit.
func TestNewErrors(t *testing.T) {
	object := ref(1)
	id := func(first, number, other, word api.Value) []api.Value {
		return []api.Value{first, number, other, word}
	}
	for i, x := range []struct {
		class, method string
		args          []api.Value
	}{
		{"", "who", []api.Value{object}}, {"Z", "who", []api.Value{object}}, {"A[]", "who", []api.Value{ref(5)}}, {"Object", "who", []api.Value{object}}, {"Object", "", []api.Value{ref(5)}}, {"int", "who", []api.Value{object}}, {"null", "who", []api.Value{object}}, {"\xff", "who", []api.Value{object}}, {strings.Repeat("A", 1<<16), "who", []api.Value{object}},
		{"A", "", []api.Value{object}}, {"A", "x", []api.Value{object}}, {"A", "see", []api.Value{object, text("")}}, {"A", "Who", []api.Value{object}}, {"A", "A.who", []api.Value{object}}, {"A", "who ", []api.Value{object}}, {"A", "make", []api.Value{object}},
		// the object
		{"A", "who", nil}, {"A", "who", []api.Value{}}, {"A", "who", []api.Value{null}}, {"A", "who", []api.Value{num(1)}}, {"A", "who", []api.Value{flag(1)}}, {"A", "who", []api.Value{text("A")}}, {"A", "who", []api.Value{ref(4)}}, {"A", "who", []api.Value{ref(5)}}, {"A", "who", []api.Value{ref(6)}}, {"A", "who", []api.Value{ref(7)}}, {"A", "who", []api.Value{ref(-1)}}, {"A", "who", []api.Value{ref(1 << 40)}},
		{"A", "who", []api.Value{{Sort: api.Ref, Ref: 1, N: 1}}}, {"A", "who", []api.Value{{Sort: api.Ref, Ref: 1, S: "A"}}}, {"A", "who", []api.Value{{Sort: 5, Ref: 1}}}, {"A", "who", []api.Value{{Sort: -1, Ref: 1}}},
		{"B", "who", []api.Value{ref(0)}}, {"B", "who", []api.Value{ref(2)}}, {"C", "who", []api.Value{object}}, {"D", "who", []api.Value{object}}, {"I", "see", []api.Value{ref(0), text("")}}, {"J", "see", []api.Value{object, text("")}}, {"U", "make", []api.Value{object}},
		// the number of values
		{"A", "who", []api.Value{object, object}}, {"A", "who", []api.Value{object, null}}, {"A", "id", []api.Value{object}}, {"A", "id", []api.Value{object, num(1), null}}, {"A", "id", []api.Value{object, num(1), null, text(""), null}}, {"A", "who", slices.Repeat([]api.Value{object}, 1000)}, {"I", "see", []api.Value{object}},
		// the arguments
		{"A", "id", id(object, null, null, text(""))}, {"A", "id", id(object, flag(0), null, text(""))}, {"A", "id", id(object, text("1"), null, text(""))}, {"A", "id", id(object, object, null, text(""))}, {"A", "id", id(object, api.Value{Sort: api.Int, S: "1"}, null, text(""))}, {"A", "id", id(object, api.Value{Sort: api.Int, Ref: 1}, null, text(""))},
		{"A", "id", id(object, num(1), ref(4), text(""))}, {"A", "id", id(object, num(1), ref(5), text(""))}, {"A", "id", id(object, num(1), ref(7), text(""))}, {"A", "id", id(object, num(1), ref(-1), text(""))}, {"A", "id", id(object, num(1), num(1), text(""))}, {"A", "id", id(object, num(1), api.Value{N: 1}, text(""))},
		{"A", "id", id(object, num(1), null, null)}, {"A", "id", id(object, num(1), null, text("\xff"))}, {"A", "id", id(object, num(1), null, text("\xed\xa0\x80"))}, {"A", "id", id(object, num(1), null, text(strings.Repeat("x", 4097)))}, {"A", "id", id(object, num(1), null, api.Value{Sort: api.Text, N: 1})},
		{"A", "both", []api.Value{object, num(1), flag(2)}}, {"A", "both", []api.Value{object, num(1), flag(-1)}}, {"A", "both", []api.Value{object, num(1), num(1)}}, {"A", "both", []api.Value{object, flag(1), num(1)}}, {"A", "both", []api.Value{num(1), object, flag(1)}},
		{"A", "pass", []api.Value{object, object}}, {"A", "pass", []api.Value{object, text("Fault")}},
	} {
		h := objects(t)
		args, cells := slices.Clone(x.args), h.Cells()
		if m, e := vm.New(h, x.class, x.method, x.args); m != nil || e != api.ErrVmCall {
			t.Errorf("%d: %.20q.%.20q of %.80v: %v, %d", i, x.class, x.method, x.args, m, e)
		}
		if !slices.Equal(args, x.args) || h.Len() != len(cells) {
			t.Errorf("%d: %.80v became %.80v, %d objects", i, args, x.args, h.Len())
		}
	}
}

// P10.1: a reference to an array is an object, but none of a class that has methods.
func TestNewOfArray(t *testing.T) {
	h := objects(t)
	for _, class := range h.Table().Names() {
		for _, name := range strings.Fields("who id make see") {
			if m, e := vm.New(h, class, name, []api.Value{ref(5)}); m != nil || e != api.ErrVmCall {
				t.Errorf("%s.%s: %d", class, name, e)
			}
		}
	}
}

// Rules: arguments, and what is behind them in their slices, are neither modified nor retained.
func TestNewKeepsNoArguments(t *testing.T) {
	h := objects(t)
	word := []byte("word")
	behind := []api.Value{ref(1), num(3), ref(3), text(unsafe.String(&word[0], len(word))), num(7), num(8)}
	name, class := []byte("see"), []byte("I")
	before := fmt.Sprint(behind)
	m := begin(t, h, "A", "id", behind[:4]...)
	o := begin(t, h, unsafe.String(&class[0], 1), unsafe.String(&name[0], 3), ref(1), text(unsafe.String(&word[0], len(word))))
	if fmt.Sprint(behind) != before {
		t.Errorf("%s became %v", before, behind)
	}
	behind[0], behind[1], behind[2] = ref(2), null, ref(0)
	copy(word, "else")
	copy(name, "xxx")
	class[0] = 'Z'
	if _, locals := m.Kinds(); show(locals) != "B int D text" {
		t.Errorf("the locals became %q", locals)
	}
	m.Run(9)
	checkEnd(t, m, api.Ending{Way: api.EndValue, Value: ref(3)})
	if class, name, _ := o.Where(); class != "B" || name != "see" {
		t.Errorf("at %q.%q", class, name)
	}
	o.Run(9)
	checkEnd(t, o, api.Ending{Way: api.EndValue, Value: text("wordb")})
}

// Two runs on one heap have nothing in common but the objects.
func TestTwoRuns(t *testing.T) {
	h, m := started(t, 40, "int", "load 0; get A.x; out; load 0; load 0; get A.x; int 1; add; put A.x; load 0; get A.x; return")
	o := begin(t, h, "A", "m", ref(0))
	m.Run(3)
	o.Run(99)
	checkEnd(t, o, api.Ending{Way: api.EndValue, Value: num(1)})
	checkEnd(t, m, api.Ending{})
	m.Run(99)
	checkEnd(t, m, api.Ending{Way: api.EndValue, Value: num(2)})
	if !slices.Equal(m.Outs(), []int64{0}) || !slices.Equal(o.Outs(), []int64{0}) {
		t.Error(m.Outs(), o.Outs())
	}
}
