package hier_test

import (
	"fmt"
	"reflect"
	"slices"
	"strings"
	"testing"
	"unsafe"

	"squinch/api"
	"squinch/hier"
)

// zoo is a hierarchy with something of everything, some classes ahead of their Super and of their interfaces.
func zoo() []api.Class {
	return list(
		fields(does(derived("B", "A", "I"), "see(int)", "wait()"), "y:A[]"),
		does(wants(fields(abstract("A", "Object"), "x:int", "t:text transient"), "wait()"), "go()"),
		wants(face("I"), "see(int)"),
		abstract("C", "A", "J", "K"),
		wants(face("J", "I"), "tell()text"),
		wants(face("K"), "tell()text", "see(int)"),
		fields(does(final("D", "B"), "go()", "wait()"), "u:int transient", "z:D[][]", "v:bool"),
		derived("E", "Object"),
		fields(does(derived("F", "Fault", "L"), "ask(F,text)F"), "why:text"),
		wants(face("L", "M"), "ask(F,text)F"),
		face("M"),
	)
}

func zooTable(t *testing.T) *hier.Table {
	t.Helper()
	return table(t, zoo()...)
}

var predefined = []string{"Object", "Fault", "NullFault", "IndexFault", "CastFault", "ZeroFault", "RoomFault", "CallFault"}

// P6.2
func TestNamesOfTables(t *testing.T) {
	if got := table(t).Names(); !slices.Equal(got, predefined) {
		t.Errorf("Names() = %q", got)
	}
	want := slices.Concat(predefined, strings.Fields("B A I C J K D E F L M"))
	h := zooTable(t)
	for range 20 {
		if got := h.Names(); !slices.Equal(got, want) {
			t.Fatalf("Names() = %q", got)
		}
	}
	var l []api.Class
	want = slices.Clone(predefined)
	for i := range 500 {
		name := fmt.Sprint("C", (i*7)%500)
		l, want = append(l, derived(name, "Object")), append(want, name)
	}
	h, _, _ = hier.New(l)
	if got := h.Names(); !slices.Equal(got, want) {
		t.Errorf("Names() = %q", got)
	}
}

// P6.2
func TestGet(t *testing.T) {
	h := zooTable(t)
	for _, c := range slices.Concat(given(), zoo()) {
		if d, ok := h.Get(c.Name); !ok || !same(list(d), list(c)) {
			t.Errorf("Get(%s) = %+v, %v, want %+v", c.Name, d, ok, c)
		}
	}
	whole := api.Class{Name: "W", Super: "E", Like: []string{"J", "K"}, Final: true,
		Fields: []api.Field{{Name: "a", Kind: "int", Transient: true}, {Name: "b", Kind: "W[]"}},
		Methods: []api.Method{{Name: "tell", Result: "text", Locals: 3, Code: []api.Instr{{Op: "word", S: "é"}, {Op: "int", N: -3}, {Op: "pop"}, {Op: "return"}}, Catches: []api.Catch{{From: 0, To: 2, At: 3, Class: "Fault"}}},
			{Name: "see", Params: []string{"int"}, Locals: 2, Code: []api.Instr{{Op: "return"}}}}}
	h = table(t, append(zoo(), whole)...)
	if d, ok := h.Get("W"); !ok || !same(list(d), list(whole)) {
		t.Errorf("Get(W) = %+v, %v", d, ok)
	}
	if owner, m, ok := h.Method("W", "tell"); owner != "W" || !ok || fmt.Sprint(m) != fmt.Sprint(whole.Methods[0]) {
		t.Errorf("Method(W, tell) = %s, %+v, %v", owner, m, ok)
	}
}

// strange is names of classes that do not exist.
func strange() []string {
	return []string{"", "Z", "AA", "Ab", "a", "object", "OBJECT", "Object ", " Object", "Objects", "int", "bool", "text", "null", "Null", "A[]", "Object[]", "int[]", "[]", "A.go", "A\x00", "\xff", "É", "x", "go", strings.Repeat("A", 33), strings.Repeat("A", 1<<16)}
}

// P6.2: nothing is told of a class that does not exist.
func TestClassesThatDoNotExist(t *testing.T) {
	for _, h := range []*hier.Table{table(t, derived("Y", "Object")), zooTable(t)} {
		for _, s := range strange() {
			if c, ok := h.Get(s); ok || !reflect.DeepEqual(c, api.Class{}) {
				t.Errorf("Get(%.50q) = %+v, %v", s, c, ok)
			}
			if l := h.Fields(s); len(l) != 0 {
				t.Errorf("Fields(%.50q) = %v", s, l)
			}
			for _, member := range []string{"", "x", "what", "go", "see", "tell"} {
				if n := h.Place(s, member); n != -1 {
					t.Errorf("Place(%.50q, %q) = %d", s, member, n)
				}
				if owner, m, ok := h.Method(s, member); owner != "" || ok || !reflect.DeepEqual(m, api.Method{}) {
					t.Errorf("Method(%.50q, %q) = %q, %+v, %v", s, member, owner, m, ok)
				}
			}
			if h.Objects(s) || h.Print(s) != "" {
				t.Errorf("Objects(%.50q) = %v, Print %q", s, h.Objects(s), h.Print(s))
			}
		}
	}
}

// P6.2
func TestKinds(t *testing.T) {
	h := zooTable(t)
	bases := slices.Concat(predefined, strings.Fields("A B C D E F I J K L M int bool text"))
	for _, s := range bases {
		for n := range 7 {
			if a := s + strings.Repeat("[]", n); h.Kind(a) != (n <= 3) {
				t.Errorf("Kind(%s) = %v", a, h.Kind(a))
			}
		}
	}
	if !h.Kind("null") {
		t.Error("Kind(null) = false")
	}
	for _, s := range append(strange(), "Z[]", "Z[][][]", "null[]", "null[][]", "null[][][]", "A[", "A]", "A[]]", "A[[]]", "A[ ]", "A []", " A", "A ", "int [ ]", "Null[]", "nul", "nulls", "A[]B", "[]A", strings.Repeat("[]", 1<<16), "A"+strings.Repeat("[]", 1<<16)) {
		if slices.Contains([]string{"int", "bool", "text", "null", "A[]", "Object[]", "int[]"}, s) {
			continue
		}
		if h.Kind(s) || h.Sub(s, s) || h.Sub(s, "Object") || h.Sub("null", s) || h.Join(s, s) != "" || h.Join(s, "Object") != "" || h.Join("Object", s) != "" || h.Join("null", s) != "" || h.Join(s, "null") != "" || h.Join("A", s) != "" || h.Join(s, "A[]") != "" || h.Join("A[]", s) != "" {
			t.Errorf("%.50q is a kind, or has something of one: %v", s, h.Kind(s))
		}
	}
	if table(t).Kind("A") || !table(t).Kind("Fault[]") {
		t.Error("kinds of the predefined classes alone")
	}
}

// supers is, for each kind of the zoo, those of which it is a subkind, beside itself; of the arrays and of those that have Object alone just some.
var supers = map[string]string{
	"null":        "*",
	"int":         "",
	"bool":        "",
	"text":        "",
	"Object":      "",
	"Fault":       "Object",
	"NullFault":   "Fault Object",
	"CallFault":   "Fault Object",
	"F":           "Fault Object L M",
	"A":           "Object",
	"B":           "A Object I",
	"C":           "A Object J K I",
	"D":           "B A Object I",
	"E":           "Object",
	"I":           "Object",
	"J":           "Object I",
	"K":           "Object",
	"L":           "Object M",
	"M":           "Object",
	"int[]":       "Object",
	"int[][]":     "Object",
	"text[][][]":  "Object",
	"A[]":         "Object",
	"B[]":         "Object",
	"B[][]":       "Object",
	"Object[]":    "Object",
	"Object[][]":  "Object",
	"I[]":         "Object",
	"NullFault[]": "Object",
}

// P6.2
func TestSubkinds(t *testing.T) {
	h := zooTable(t)
	for a, ups := range supers {
		for b := range supers {
			want := a == b || slices.Contains(strings.Fields(ups), b) || ups == "*" && b != "int" && b != "bool" && b != "text"
			if h.Sub(a, b) != want {
				t.Errorf("Sub(%s, %s) = %v", a, b, !want)
			}
		}
	}
}

// P6.2
func TestJoins(t *testing.T) {
	h := zooTable(t)
	for a, ups := range supers {
		for b := range supers {
			if h.Sub(a, b) {
				checkJoin(t, h, a, b, b)
				if !h.Sub(b, a) {
					checkJoin(t, h, b, a, b)
				}
			} else if !h.Sub(b, a) {
				want := "Object"
				if plain(a) || plain(b) {
					want = ""
				}
				// Below Object, these alone have a class in common.
				for _, s := range []string{"Fault", "A"} {
					if strings.Contains(" "+ups, " "+s+" ") && h.Sub(b, s) {
						want = s
					}
				}
				checkJoin(t, h, a, b, want)
			}
		}
	}
	for _, x := range []struct{ a, b, join string }{
		{"B", "C", "A"}, {"C", "D", "A"}, {"B", "E", "Object"}, {"NullFault", "CallFault", "Fault"}, {"F", "ZeroFault", "Fault"}, {"F", "B", "Object"},
		// Interfaces are never found: B and C are both subkinds of I.
		{"B", "J", "Object"}, {"D", "J", "Object"}, {"I", "K", "Object"}, {"J", "K", "Object"}, {"A", "I", "Object"}, {"F", "M", "M"}, {"L", "F", "L"}, {"C", "I", "I"},
		{"B", "B[]", "Object"}, {"A[]", "B[]", "Object"}, {"int[]", "bool[]", "Object"}, {"int[]", "int[][]", "Object"}, {"I", "I[]", "Object"}, {"A[]", "Object", "Object"}, {"int[]", "Fault", "Object"},
		{"null", "null", "null"}, {"null", "A", "A"}, {"null", "I", "I"}, {"null", "int[]", "int[]"}, {"null", "Object", "Object"},
		{"null", "int", ""}, {"null", "text", ""}, {"null", "bool", ""}, {"int", "bool", ""}, {"int", "text", ""}, {"int", "A", ""}, {"int", "Object", ""}, {"int", "int[]", ""}, {"text", "I", ""}, {"bool", "Object[]", ""},
		{"int", "int", "int"}, {"bool", "bool", "bool"}, {"text", "text", "text"}, {"A[]", "A[]", "A[]"}, {"Object", "Object", "Object"},
	} {
		checkJoin(t, h, x.a, x.b, x.join)
		checkJoin(t, h, x.b, x.a, x.join)
	}
}

func checkJoin(t *testing.T, h *hier.Table, a, b, want string) {
	t.Helper()
	if got := h.Join(a, b); got != want {
		t.Errorf("Join(%s, %s) = %q, want %q", a, b, got, want)
	}
}

// P6.2: the nearest class, of several.
func TestNearestJoin(t *testing.T) {
	h := table(t, derived("A", "Object"), derived("B", "A"), derived("C", "B"), derived("D", "C"), derived("X", "B"), derived("Y", "X"), derived("W", "A"), face("I"), derived("P", "C", "I"), derived("Q", "X", "I"))
	for _, x := range []struct{ a, b, join string }{{"D", "Y", "B"}, {"C", "X", "B"}, {"D", "W", "A"}, {"W", "Y", "A"}, {"D", "P", "C"}, {"P", "Q", "B"}, {"Y", "Q", "X"}, {"P", "I", "I"}, {"D", "I", "Object"}} {
		checkJoin(t, h, x.a, x.b, x.join)
		checkJoin(t, h, x.b, x.a, x.join)
	}
}

// P6.2
func TestFieldsAndPlaces(t *testing.T) {
	h := zooTable(t)
	for class, want := range map[string]string{
		"Object": "", "Fault": "what:text", "ZeroFault": "what:text", "F": "what:text why:text", "E": "", "I": "", "J": "",
		"A": "x:int t:text!", "B": "x:int t:text! y:A[]", "C": "x:int t:text!", "D": "x:int t:text! y:A[] u:int! z:D[][] v:bool",
	} {
		got := h.Fields(class)
		var l []string
		for i, f := range got {
			s := f.Name + ":" + f.Kind
			if f.Transient {
				s += "!"
			}
			l = append(l, s)
			if n := h.Place(class, f.Name); n != i {
				t.Errorf("Place(%s, %s) = %d, want %d", class, f.Name, n, i)
			}
		}
		if strings.Join(l, " ") != want {
			t.Errorf("Fields(%s) = %q, want %q", class, l, want)
		}
		for _, s := range []string{"", "X", "xx", "go", "see", "int", "what ", "x:int", "\xff", strings.Repeat("x", 1<<16)} {
			if n := h.Place(class, s); n != -1 {
				t.Errorf("Place(%s, %.50q) = %d", class, s, n)
			}
		}
	}
	for _, x := range [][2]string{{"A", "y"}, {"C", "y"}, {"Object", "what"}, {"E", "x"}, {"Fault", "why"}, {"B", "what"}} {
		if n := h.Place(x[0], x[1]); n != -1 {
			t.Errorf("Place(%s, %s) = %d", x[0], x[1], n)
		}
	}
}

func checkMethod(t *testing.T, h *hier.Table, class, name, want string) {
	t.Helper()
	owner, m, ok := h.Method(class, name)
	if owner != want || ok != (want != "") || ok && m.Name != name || !ok && !reflect.DeepEqual(m, api.Method{}) {
		t.Errorf("Method(%s, %s) = %q, %+v, %v, want that of %q", class, name, owner, m, ok, want)
	}
	if c, found := h.Get(want); found && !slices.ContainsFunc(c.Methods, func(x api.Method) bool { return reflect.DeepEqual(x, m) }) {
		t.Errorf("Method(%s, %s) = %+v, not as in %+v", class, name, m, c.Methods)
	}
}

// P6.2
func TestMethods(t *testing.T) {
	h := zooTable(t)
	for _, x := range []struct{ class, name, owner string }{
		{"A", "go", "A"}, {"B", "go", "A"}, {"C", "go", "A"}, {"D", "go", "D"}, {"E", "go", ""}, {"Object", "go", ""}, {"I", "go", ""},
		{"A", "wait", "A"}, {"B", "wait", "B"}, {"C", "wait", "A"}, {"D", "wait", "D"},
		{"A", "see", ""}, {"B", "see", "B"}, {"C", "see", "I"}, {"D", "see", "B"}, {"I", "see", "I"}, {"J", "see", "I"}, {"K", "see", "K"},
		{"C", "tell", "J"}, {"J", "tell", "J"}, {"K", "tell", "K"}, {"I", "tell", ""}, {"A", "tell", ""},
		{"F", "ask", "F"}, {"L", "ask", "L"}, {"M", "ask", ""}, {"Fault", "ask", ""}, {"ZeroFault", "what", ""},
		{"A", "", ""}, {"A", "x", ""}, {"A", "Go", ""}, {"A", "go ", ""}, {"A", "A.go", ""}, {"A", "\xff", ""}, {"A", strings.Repeat("g", 1<<16), ""},
	} {
		checkMethod(t, h, x.class, x.name, x.owner)
	}
}

// P6.2: the interfaces of an abstract class in their order, each followed by its own ones.
func TestMethodsOfInterfaces(t *testing.T) {
	m := func(c api.Class) api.Class { return wants(c, "f()") }
	for _, x := range []struct {
		l    []api.Class
		want string
	}{
		{list(abstract("A", "Object", "I", "J"), m(face("I")), m(face("J"))), "I"},
		{list(abstract("A", "Object", "J", "I"), m(face("I")), m(face("J"))), "J"},
		{list(abstract("A", "Object", "I", "J"), face("I"), m(face("J"))), "J"},
		{list(abstract("A", "Object", "I", "J"), face("I", "K"), m(face("J")), m(face("K"))), "K"},
		{list(abstract("A", "Object", "I", "J"), m(face("I", "K")), m(face("J")), m(face("K"))), "I"},
		{list(abstract("A", "Object", "I", "J"), face("I", "K"), m(face("J")), face("K", "L", "M"), face("L"), m(face("M"))), "M"},
		{list(abstract("A", "Object", "I", "J"), face("I", "K", "N"), m(face("J")), face("K", "L"), m(face("L")), m(face("N"))), "L"},
		{list(abstract("A", "Object", "I", "J"), face("I", "K", "N"), m(face("J")), face("K", "L"), face("L"), m(face("N"))), "N"},
		{list(abstract("A", "Object", "I", "J"), face("I", "K"), m(face("J", "K")), face("K")), "J"},
		{list(abstract("A", "Object", "I", "K", "J"), face("I", "J"), m(face("J")), m(face("K"))), "J"},
		// Classes come first, and from the nearest one on.
		{list(abstract("A", "B", "I"), m(face("I")), wants(abstract("B", "Object"), "f()")), "B"},
		{list(abstract("A", "B", "I"), m(face("I")), does(derived("B", "Object"), "f()")), "B"},
		{list(abstract("A", "B", "I"), m(face("I")), abstract("B", "C"), does(derived("C", "Object"), "f()")), "C"},
		{list(wants(abstract("A", "B", "I"), "f()"), m(face("I")), does(derived("B", "Object"), "f()")), "A"},
		{list(abstract("A", "B"), m(face("I")), abstract("B", "C", "I"), wants(abstract("C", "Object", "I"), "f()")), "C"},
		// Then the interfaces of the classes above, from the nearest one on, behind all of its own ones.
		{list(abstract("A", "B"), abstract("B", "Object", "I"), m(face("I"))), "I"},
		{list(abstract("A", "B", "J"), abstract("B", "Object", "I"), m(face("I")), m(face("J"))), "J"},
		{list(abstract("A", "B", "J"), abstract("B", "Object", "I"), m(face("I")), face("J", "K"), m(face("K"))), "K"},
		{list(abstract("A", "B", "J"), abstract("B", "Object", "I"), m(face("I")), face("J", "K"), face("K")), "I"},
		{list(abstract("A", "B"), abstract("B", "C", "I"), abstract("C", "Object", "J"), m(face("I")), m(face("J"))), "I"},
		{list(abstract("A", "B"), abstract("B", "C", "I"), abstract("C", "Object", "J"), face("I"), m(face("J"))), "J"},
		{list(abstract("A", "B"), abstract("B", "C", "I"), abstract("C", "Object", "J", "K"), face("I", "K"), m(face("J")), m(face("K"))), "K"},
		{list(abstract("A", "B", "I"), abstract("B", "C"), abstract("C", "Object", "J", "I"), m(face("J")), m(face("I"))), "I"},
		// Interfaces too.
		{list(face("A", "I", "J"), face("I", "K"), m(face("J")), m(face("K"))), "K"},
		{list(m(face("A", "I")), m(face("I"))), "A"},
		{list(face("A", "I"), face("I")), ""},
	} {
		checkMethod(t, table(t, x.l...), "A", "f", x.want)
		slices.Reverse(x.l)
		checkMethod(t, table(t, x.l...), "A", "f", x.want)
	}
}

// P6.2
func TestObjects(t *testing.T) {
	h := zooTable(t)
	for _, s := range slices.Concat(predefined, strings.Fields("B D E F")) {
		if !h.Objects(s) {
			t.Errorf("Objects(%s) = false", s)
		}
	}
	for _, s := range strings.Fields("A C I J K L M") {
		if h.Objects(s) {
			t.Errorf("Objects(%s) = true", s)
		}
	}
}

// P6.2
func TestLayouts(t *testing.T) {
	h := zooTable(t)
	for class, want := range map[string]string{
		"Object":    "",
		"Fault":     "Fault() what:text.",
		"ZeroFault": "ZeroFault(Fault() what:text.).",
		"F":         "F(Fault() what:text.) why:text.",
		"E":         "E().",
		"I":         "I().",
		"J":         "J().",
		"A":         "A() x:int.",
		"B":         "B(A() x:int.) y:A[].",
		"C":         "C(A() x:int.).",
		"D":         "D(B(A() x:int.) y:A[].) z:D[][] v:bool.",
	} {
		if got := h.Print(class); got != want {
			t.Errorf("Print(%s) = %q, want %q", class, got, want)
		}
	}
	h = table(t, fields(derived("P", "Object"), "x:int", "t:text transient"), fields(derived("Q", "P"), "a:Q transient", "b:int transient"), derived("R", "Q"), fields(derived("S", "R"), "c:int", "d:S[] transient", "e:Object[][][]"))
	for class, want := range map[string]string{"P": "P() x:int.", "Q": "Q(P() x:int.).", "R": "R(Q(P() x:int.).).", "S": "S(R(Q(P() x:int.).).) c:int e:Object[][][]."} {
		if got := h.Print(class); got != want {
			t.Errorf("Print(%s) = %q, want %q", class, got, want)
		}
	}
}

// scramble changes everything that lists hold, with their unused capacity.
func scramble(v reflect.Value) {
	switch v.Kind() {
	case reflect.Struct:
		for i := range v.NumField() {
			scramble(v.Field(i))
		}
	case reflect.Slice:
		l := v.Slice(0, v.Cap())
		for i := range l.Len() {
			scramble(l.Index(i))
		}
	case reflect.String:
		v.SetString("Scrambled")
	case reflect.Bool:
		v.SetBool(!v.Bool())
	default:
		v.SetInt(77)
	}
}

// facts tells everything of a table.
func facts(h *hier.Table) string {
	s := fmt.Sprintln(h.Names())
	for _, name := range h.Names() {
		c, ok := h.Get(name)
		s += fmt.Sprintln(c, ok, h.Fields(name), h.Objects(name), h.Print(name))
		for _, member := range []string{"go", "see", "tell", "wait", "ask", "x", "y", "what", "why"} {
			owner, m, ok := h.Method(name, member)
			s += fmt.Sprintln(owner, m, ok, h.Place(name, member))
		}
		for _, other := range h.Names() {
			s += fmt.Sprintln(h.Sub(name, other), h.Join(name, other))
		}
	}
	return s
}

// P6.1, P6.2: a table keeps nothing of what it was given, nor does it give away what it keeps.
func TestListsThatAreChangedAfterwards(t *testing.T) {
	l := zoo()
	l[0].Methods[0].Code = []api.Instr{{Op: "int", N: 5}, {Op: "word", S: "w"}, {Op: "return"}}
	l[0].Methods[0].Catches = []api.Catch{{From: 0, To: 1, At: 2, Class: "Fault"}}
	spare(reflect.ValueOf(&l).Elem())
	h, other := table(t, l...), zooTable(t)
	want, wantOther := facts(h), facts(other)
	scramble(reflect.ValueOf(&l).Elem())
	if facts(h) != want {
		t.Fatal("the table changed with what it was given")
	}
	for _, name := range h.Names() {
		c, _ := h.Get(name)
		scramble(reflect.ValueOf(&c).Elem())
		f := h.Fields(name)
		scramble(reflect.ValueOf(&f).Elem())
		for _, member := range []string{"go", "see", "tell", "wait", "ask"} {
			_, m, _ := h.Method(name, member)
			scramble(reflect.ValueOf(&m).Elem())
		}
		names := h.Names()
		scramble(reflect.ValueOf(&names).Elem())
		g := hier.Given()
		scramble(reflect.ValueOf(&g).Elem())
	}
	if facts(h) != want {
		t.Error("the table changed with what it gave out")
	}
	if facts(other) != wantOther || facts(zooTable(t)) != wantOther {
		t.Error("another table changed with what the first one gave out")
	}
}

// P6.2: two answers share nothing with each other: what is appended to one is not seen in the other one.
func TestAnswersAreApart(t *testing.T) {
	h := zooTable(t)
	a, b, c := h.Fields("A"), h.Fields("B"), h.Fields("C")
	_ = append(a, api.Field{Name: "bad"})
	_ = append(c, api.Field{Name: "bad"})
	if b[2].Name != "y" || h.Fields("B")[2].Name != "y" {
		t.Errorf("Fields(B) = %v after appending to Fields(A)", b)
	}
}

// P6.2: strings are new too, where they come from arguments.
func TestStringsAreNew(t *testing.T) {
	fresh := func(s string) string { return string([]byte(s)) }
	h := zooTable(t)
	for _, x := range [][2]string{{"B", "A"}, {"A", "B"}, {"A", "A"}, {"null", "A[]"}, {"A[]", "null"}, {"int", "int"}} {
		a, b := fresh(x[0]), fresh(x[1])
		if s := h.Join(a, b); s == "" || unsafe.StringData(s) == unsafe.StringData(a) || unsafe.StringData(s) == unsafe.StringData(b) {
			t.Errorf("Join(%s, %s) is one of its arguments", a, b)
		}
	}
	name, super, member := fresh("Aa"), fresh("Object"), fresh("xx")
	h = table(t, fields(derived(name, super), member+":int"))
	c, _ := h.Get("Aa")
	if unsafe.StringData(c.Name) == unsafe.StringData(name) || unsafe.StringData(h.Names()[8]) == unsafe.StringData(name) || unsafe.StringData(h.Fields("Aa")[0].Name) == unsafe.StringData(member) || unsafe.StringData(c.Super) == unsafe.StringData(super) {
		t.Error("the table keeps a string that it was given")
	}
}

// P1: tables do not take ever so long where there are very many ways from one interface to another one, or very long ones.
func TestManyWays(t *testing.T) {
	var l []api.Class
	const high = 60
	for i := range high {
		for _, side := range "LR" {
			c := face(fmt.Sprint(string(side), i))
			if i+1 < high {
				c.Like = []string{fmt.Sprint("L", i+1), fmt.Sprint("R", i+1)}
			}
			l = append(l, wants(c, fmt.Sprint("f", i, "()int")))
		}
	}
	l = append(l, abstract("A", "Object", "L0", "R0"))
	h, at, e := hier.New(l)
	if e != api.OK {
		t.Fatal(at, e)
	}
	checkMethod(t, h, "A", "f59", "L59")
	checkMethod(t, h, "A", "g", "")
	if !h.Sub("A", "R59") || h.Sub("A", "Fault") || h.Join("A", "L0") != "L0" || h.Join("A", "E") != "" {
		t.Error("subkinds by many ways")
	}
	l[len(l)-1].Abstract = false
	if _, at, e := hier.New(l); at != 2*high || e != api.ErrHierLacks {
		t.Error(at, e)
	}
	l[2*high-1] = face("R59", "L30")
	if _, at, e := hier.New(l); at != 60 || e != api.ErrHierLoop {
		t.Error(at, e)
	}
}

// P1: as deep as anything may be nested.
func TestDeepHierarchies(t *testing.T) {
	const high = 1 << 16
	var l []api.Class
	for i := range high {
		l = append(l, derived(fmt.Sprint("C", i), fmt.Sprint("C", i+1)))
	}
	l[high-1] = fields(does(derived(l[high-1].Name, "Object"), "f()"), "x:int")
	for range 2 {
		h, at, e := hier.New(l)
		if e != api.OK {
			t.Fatal(at, e)
		}
		top := fmt.Sprint("C", high-1)
		if !h.Sub("C0", top) || h.Sub(top, "C0") || h.Place("C0", "x") != 0 || h.Join("C0", "Fault") != "Object" || len(h.Names()) != high+8 {
			t.Error("facts of a class that is derived over very many steps")
		}
		checkMethod(t, h, "C0", "f", top)
		if s := h.Print("C0"); !strings.HasPrefix(s, "C0(C1(C2(") || !strings.HasSuffix(s, "("+top+"() x:int.).)"+strings.Repeat(".)", high-3)+".") {
			t.Errorf("Print is %d bytes: %.50q", len(s), s)
		}
		slices.Reverse(l)
	}
	l[high/2].Super = fmt.Sprint("C", high/4)
	if _, at, e := hier.New(l); at != high/4 || e != api.ErrHierLoop {
		t.Error(at, e)
	}
}
