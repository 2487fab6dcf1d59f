package hier_test

import (
	"fmt"
	"reflect"
	"slices"
	"strings"
	"testing"

	"squinch/api"
	"squinch/hier"
)

// These make classes and members that are valid by themselves.

func derived(name, super string, like ...string) api.Class {
	return api.Class{Name: name, Super: super, Like: like}
}

func abstract(name, super string, like ...string) api.Class {
	return api.Class{Name: name, Super: super, Like: like, Abstract: true}
}

func final(name, super string, like ...string) api.Class {
	return api.Class{Name: name, Super: super, Like: like, Final: true}
}

func face(name string, like ...string) api.Class {
	return api.Class{Name: name, Super: "Object", Like: like, Interface: true, Abstract: true}
}

// fields adds a field of each kind to a class: "x:int", or "x:int transient".
func fields(c api.Class, l ...string) api.Class {
	for _, s := range l {
		name, kind, _ := strings.Cut(s, ":")
		kind, _, transient := strings.Cut(kind, " ")
		c.Fields = append(c.Fields, api.Field{Name: name, Kind: kind, Transient: transient})
	}
	return c
}

// method returns a method by its name and its signature: "go(int,A)text".
func method(s string) api.Method {
	name, rest, _ := strings.Cut(s, "(")
	params, result, _ := strings.Cut(rest, ")")
	m := api.Method{Name: name, Result: result, Locals: 1, Code: []api.Instr{{Op: "return"}}}
	if params != "" {
		m.Params = strings.Split(params, ",")
	}
	m.Locals += len(m.Params)
	return m
}

// does adds methods that are not abstract to a class.
func does(c api.Class, l ...string) api.Class {
	for _, s := range l {
		c.Methods = append(c.Methods, method(s))
	}
	return c
}

// wants adds abstract methods to a class.
func wants(c api.Class, l ...string) api.Class {
	for _, s := range l {
		m := method(s)
		m.Abstract, m.Locals, m.Code = true, 0, nil
		c.Methods = append(c.Methods, m)
	}
	return c
}

func list(l ...api.Class) []api.Class { return l }

// show keeps messages short.
func show(l []api.Class) string {
	s := ""
	for _, c := range l {
		s += fmt.Sprintf("\n\t%.300s", fmt.Sprintf("%+v", c))
		if len(s) > 5000 {
			return s + " .."
		}
	}
	return s
}

// checkNew compares also with the second definition, so that this is tested too.
func checkNew(t *testing.T, l []api.Class, at int, e api.Errno) *hier.Table {
	t.Helper()
	h, gotAt, gotE := hier.New(l)
	if gotAt != at || gotE != e || (h != nil) != (e == api.OK) {
		t.Errorf("New: table %v, %d, %d, want %d, %d, of%s", h != nil, gotAt, gotE, at, e, show(l))
	}
	if a, f := wanted(l); a != at || f != e {
		t.Errorf("by the second definition %d, %d, want %d, %d, of%s", a, f, at, e, show(l))
	}
	return h
}

// table returns the table of classes without an error.
func table(t *testing.T, l ...api.Class) *hier.Table {
	t.Helper()
	h := checkNew(t, l, 0, api.OK)
	if h == nil {
		t.FailNow()
	}
	return h
}

// P6.1
func TestGiven(t *testing.T) {
	if got := hier.Given(); !same(got, given()) {
		t.Errorf("Given() = %s", show(got))
	}
	got := hier.Given()
	for i := range got {
		got[i].Name, got[i].Final = "X", true
		got[i].Fields = append(got[i].Fields[:0], api.Field{Name: "x", Kind: "int"})
	}
	_ = append(got[:0], got[7])
	if again := hier.Given(); !same(again, given()) {
		t.Errorf("Given() after changes of what it returned = %s", show(again))
	}
	h := table(t)
	for _, c := range given() {
		if d, ok := h.Get(c.Name); !ok || !same(list(d), list(c)) {
			t.Errorf("Get(%s) = %+v, %v", c.Name, d, ok)
		}
	}
}

// same compares classes in all fields, but nil and empty lists are equal.
func same(a, b []api.Class) bool { return fmt.Sprintf("%+v", a) == fmt.Sprintf("%+v", b) }

// P6.1: no classes at all.
func TestNoClasses(t *testing.T) {
	for _, l := range [][]api.Class{nil, {}, make([]api.Class, 0, 5)} {
		if h := checkNew(t, l, 0, api.OK); h == nil || len(h.Names()) != 8 {
			t.Errorf("New of nothing: %v", h)
		}
	}
}

// P6.1: hierarchies without an error.
func TestRightHierarchies(t *testing.T) {
	for _, l := range [][]api.Class{
		list(derived("A", "Object")),
		list(derived("A", "Fault")),
		list(final("A", "Fault")),
		list(abstract("A", "Object")),
		list(face("A")),
		list(face("A", "B"), face("B", "C"), face("C")),
		list(derived("A", "B"), derived("B", "C"), derived("C", "Object")),
		list(derived("C", "Object"), derived("B", "C"), derived("A", "B")),
		list(derived("A", "B"), derived("C", "Object"), derived("B", "C")),
		// One interface by several ways.
		list(face("I", "J", "K"), face("J", "L"), face("K", "L"), face("L"), derived("A", "Object", "I", "L", "K"), derived("B", "A", "I")),
		// The same field in classes that are not derived from each other, and a field with the name of a method.
		list(fields(derived("A", "Object"), "x:int"), fields(derived("B", "Object"), "x:text"), fields(does(derived("C", "A"), "x()"), "y:C")),
		list(fields(derived("A", "Fault"), "why:text"), fields(derived("B", "Object"), "what:int")),
		// Kinds of classes that stand behind, of itself, of interfaces and of predefined classes.
		list(fields(derived("A", "Object"), "a:B", "b:A", "c:I", "d:Object", "e:ZeroFault", "f:B[][][]", "g:int[][][]", "h:text", "i:bool"), derived("B", "A"), face("I")),
		list(does(derived("A", "Object"), "f(B,A,I,int[],text,bool[][])Object[]", "g()B"), derived("B", "A"), face("I")),
		// Methods that are redefined, also as abstract ones, and again.
		list(does(derived("A", "Object"), "f(int)A"), does(derived("B", "A"), "f(int)A"), wants(abstract("C", "B"), "f(int)A"), does(derived("D", "C"), "f(int)A"), derived("E", "D")),
		// The same name and different signatures in classes of which nothing is a subkind of both.
		list(does(derived("A", "Object"), "f(int)"), does(derived("B", "Object"), "f(bool)"), wants(face("I"), "f(text)"), wants(face("J"), "f()")),
		// Abstract classes lack what they like.
		list(wants(face("I"), "f()", "g()"), abstract("A", "Object", "I"), does(abstract("B", "A"), "f()"), does(derived("C", "B"), "g()")),
		// A method that is inherited does what an interface wants.
		list(wants(face("I"), "f()"), does(derived("A", "Object"), "f()"), derived("B", "A", "I"), final("C", "B", "I")),
		list(wants(face("I"), "f()"), does(derived("A", "Object", "I"), "f()"), derived("B", "A")),
		list(wants(face("I"), "f()int"), wants(face("J", "I"), "f()int"), wants(face("K"), "f()int"), does(derived("A", "Object", "J", "K"), "f()int")),
		// Catches of classes that do not exist are left to the verifier.
		list(api.Class{Name: "A", Super: "Object", Methods: []api.Method{{Name: "f", Locals: 1, Code: []api.Instr{{Op: "new", S: "Z"}, {Op: "return"}}, Catches: []api.Catch{{From: 0, To: 1, At: 1, Class: "Y"}}}}}),
	} {
		checkNew(t, l, 0, api.OK)
	}
}

// around passes classes, alone and with others before them, behind them and on both sides, and the number of those before.
func around(l []api.Class, visit func(l []api.Class, before int)) {
	one, two := derived("Before", "Object"), face("Behind")
	visit(l, 0)
	visit(slices.Concat(list(one), l), 1)
	visit(slices.Concat(l, list(two)), 0)
	visit(slices.Concat(list(one, fields(derived("More", "Before"), "x:int")), l, list(two)), 2)
}

// wrong is classes with an error at one of them.
type wrong struct {
	l  []api.Class
	at int
	e  api.Errno
}

func checkWrong(t *testing.T, l []wrong) {
	t.Helper()
	for _, x := range l {
		around(x.l, func(l []api.Class, before int) { checkNew(t, l, x.at+before, x.e) })
	}
}

// P6.1, step 1.
func TestClassesNotValidByThemselves(t *testing.T) {
	many := fields(derived("A", "Object"), slices.Repeat([]string{"x:int"}, 33)...)
	form := api.Class{}
	checkWrong(t, []wrong{
		{list(form), 0, api.ErrClassForm},
		{list(many), 0, api.ErrClassMany},
		{list(derived("A", "Object"), form), 1, api.ErrClassForm},
		{list(derived("B", "Object"), many), 1, api.ErrClassMany},
		{list(form, many), 0, api.ErrClassForm},
		{list(many, form), 0, api.ErrClassMany},
		{list(derived("a", "Object")), 0, api.ErrClassForm},
		{list(derived("A", "")), 0, api.ErrClassForm},
		{list(derived("A", "A")), 0, api.ErrClassForm},
		{list(derived("Object", "Object")), 0, api.ErrClassForm},
		{list(derived("Object", "")), 0, api.ErrClassForm},
		{list(derived("A", "int")), 0, api.ErrClassForm},
		{list(derived("A", "null")), 0, api.ErrClassForm},
		{list(derived("A", "Object[]")), 0, api.ErrClassForm},
		{list(derived("null", "Object")), 0, api.ErrClassForm},
		{list(derived("int", "Object")), 0, api.ErrClassForm},
		{list(face("I", "I")), 0, api.ErrClassForm},
		{list(face("I"), derived("A", "Object", "I", "I")), 1, api.ErrClassForm},
		{list(derived("I", "Object"), api.Class{Name: "J", Super: "I", Interface: true, Abstract: true}), 1, api.ErrClassForm},
		{list(wants(derived("A", "Object"), "f()")), 0, api.ErrClassForm},
		{list(does(face("A"), "f()")), 0, api.ErrClassForm},
		{list(fields(face("A"), "x:int")), 0, api.ErrClassForm},
		{list(api.Class{Name: "A", Super: "Object", Abstract: true, Final: true}), 0, api.ErrClassForm},
		{list(fields(derived("A", "Object"), "x:int", "x:int")), 0, api.ErrClassForm},
		// null is a kind that exists, but not one of chapter 3.
		{list(fields(derived("A", "Object"), "x:null")), 0, api.ErrClassForm},
		{list(fields(derived("A", "Object"), "x:null[]")), 0, api.ErrClassForm},
		{list(fields(derived("A", "Object"), "x:A[][][][]")), 0, api.ErrClassForm},
		{list(does(derived("A", "Object"), "f(null)")), 0, api.ErrClassForm},
		{list(does(derived("A", "Object"), "f()null")), 0, api.ErrClassForm},
		{list(wants(face("A"), "f()null[]")), 0, api.ErrClassForm},
	})
	// A predefined class may be handed in neither as it is nor otherwise.
	for i, c := range given() {
		e := api.ErrHierName
		if i == 0 {
			e = api.ErrClassForm
		}
		checkWrong(t, []wrong{{list(c), 0, e}})
	}
}

// P6.1, step 2.
func TestNames(t *testing.T) {
	for _, name := range []string{"Fault", "NullFault", "IndexFault", "CastFault", "ZeroFault", "RoomFault", "CallFault"} {
		checkWrong(t, []wrong{
			{list(derived(name, "Object")), 0, api.ErrHierName},
			{list(face(name)), 0, api.ErrHierName},
			{list(derived("A", "Object"), derived(name, "A")), 1, api.ErrHierName},
		})
	}
	checkWrong(t, []wrong{
		{list(derived("Object", "Fault")), 0, api.ErrHierName},
		{list(derived("A", "Object"), derived("A", "Object")), 1, api.ErrHierName},
		{list(derived("A", "Object"), face("A")), 1, api.ErrHierName},
		{list(derived("A", "B"), derived("B", "Object"), derived("A", "B")), 2, api.ErrHierName},
		{list(derived("A", "Object"), derived("B", "Object"), derived("B", "Object"), derived("A", "Object")), 2, api.ErrHierName},
		{list(derived("A", "Object"), derived("A", "Object"), derived("A", "Object")), 1, api.ErrHierName},
		{list(derived("A", "Object"), derived("Fault", "Object"), derived("A", "Object")), 1, api.ErrHierName},
	})
	// Names that differ a little.
	table(t, derived("A", "Object"), derived("Aa", "Object"), derived("AA", "A"), derived("A1", "AA"), derived("Objects", "Object"), derived("OBJECT", "Object"), derived("Int", "Object"), derived("Null", "Int"))
}

// P6.1, step 3: nothing may be derived from these.
func TestSupers(t *testing.T) {
	for _, name := range []string{"Z", "Objects", "Int", "NullFault", "IndexFault", "CastFault", "ZeroFault", "RoomFault", "CallFault", "I", "F"} {
		checkWrong(t, []wrong{
			{list(face("I"), final("F", "Object"), derived("A", name)), 2, api.ErrHierSuper},
			{list(derived("A", name), face("I"), final("F", "Object")), 0, api.ErrHierSuper},
			{list(face("I"), abstract("A", name), final("F", "Object")), 1, api.ErrHierSuper},
			{list(face("I"), final("F", "Object"), final("A", name)), 2, api.ErrHierSuper},
			{list(face("I"), final("F", "Object"), derived("A", name, "I")), 2, api.ErrHierSuper},
			{list(face("I"), final("F", "Object"), derived("A", "B"), derived("B", name)), 3, api.ErrHierSuper},
		})
	}
	checkWrong(t, []wrong{
		{list(derived("A", "Y"), derived("B", "Z")), 0, api.ErrHierSuper},
		{list(derived("B", "Z"), derived("A", "Y")), 0, api.ErrHierSuper},
		{list(final("F", "Object"), derived("A", "Object"), derived("B", "F"), derived("C", "F")), 2, api.ErrHierSuper},
	})
}

// P6.1, step 3: nothing may be like these.
func TestLikes(t *testing.T) {
	for _, name := range []string{"Z", "Object", "Fault", "ZeroFault", "C", "D", "F"} {
		others := list(face("I"), derived("C", "Object"), abstract("D", "Object"), final("F", "Object"))
		for _, c := range list(derived("A", "Object", name), derived("A", "Object", name, "I"), derived("A", "Object", "I", name), face("A", name), face("A", "I", name), abstract("A", "Object", name), final("A", "C", "I", name)) {
			checkWrong(t, []wrong{
				{slices.Concat(others, list(c)), 4, api.ErrHierLike},
				{slices.Concat(list(c), others), 0, api.ErrHierLike},
				{slices.Concat(others, list(c, derived("E", "Object", name))), 4, api.ErrHierLike},
			})
		}
	}
	checkWrong(t, []wrong{
		// The errors of one class are named before those of the next one.
		{list(derived("A", "Object", "Z"), derived("B", "Z")), 0, api.ErrHierLike},
		{list(derived("B", "Z"), derived("A", "Object", "Z")), 0, api.ErrHierSuper},
		{list(derived("A", "Z", "Z")), 0, api.ErrHierSuper},
		{list(derived("A", "Object"), derived("B", "A", "A"), derived("C", "B", "Z"), derived("D", "Z")), 1, api.ErrHierLike},
	})
}

// P6.1, step 4.
func TestLoops(t *testing.T) {
	checkWrong(t, []wrong{
		// By Supers.
		{list(derived("A", "B"), derived("B", "A")), 0, api.ErrHierLoop},
		{list(derived("A", "B"), derived("B", "C"), derived("C", "A")), 0, api.ErrHierLoop},
		{list(derived("A", "Object"), derived("B", "D"), derived("C", "B"), derived("D", "C")), 1, api.ErrHierLoop},
		{list(abstract("A", "B"), abstract("B", "A")), 0, api.ErrHierLoop},
		// By Likes.
		{list(face("I", "J"), face("J", "I")), 0, api.ErrHierLoop},
		{list(face("I", "J"), face("J", "K"), face("K", "I")), 0, api.ErrHierLoop},
		{list(face("L"), face("I", "L", "J"), face("J", "L", "K"), face("K", "L", "I")), 1, api.ErrHierLoop},
		{list(face("I", "J", "K"), face("J"), face("K", "J", "I")), 0, api.ErrHierLoop},
		// By both.
		{list(derived("A", "B", "I"), derived("B", "A", "J"), face("I", "J"), face("J", "I")), 0, api.ErrHierLoop},
		{list(face("I", "J"), face("J", "I"), derived("A", "B", "I"), derived("B", "A", "J")), 0, api.ErrHierLoop},
		{list(face("K"), derived("A", "B", "K"), face("I", "J"), derived("B", "A", "J"), face("J", "I", "K")), 1, api.ErrHierLoop},
		{list(face("K"), face("I", "J"), derived("A", "B", "K"), derived("B", "A", "J"), face("J", "I", "K")), 1, api.ErrHierLoop},
		// Classes below a loop, before it and behind it.
		{list(derived("C", "A"), derived("A", "B"), derived("B", "A")), 1, api.ErrHierLoop},
		{list(derived("C", "B"), derived("A", "B"), derived("B", "A")), 1, api.ErrHierLoop},
		{list(derived("E", "D"), derived("D", "C"), derived("C", "A"), derived("B", "A"), derived("A", "B")), 3, api.ErrHierLoop},
		{list(derived("D", "Object", "K"), face("K", "I"), face("I", "J"), face("J", "I")), 2, api.ErrHierLoop},
		{list(abstract("D", "Object", "K", "J"), derived("E", "D"), face("J", "I"), face("I", "J"), face("K", "I")), 2, api.ErrHierLoop},
		{list(derived("C", "A"), derived("B", "A"), derived("A", "B"), derived("D", "B")), 1, api.ErrHierLoop},
		// Classes above a loop, and between two loops.
		{list(face("L"), face("K", "L"), face("I", "J", "K"), face("J", "I", "L")), 2, api.ErrHierLoop},
		{list(face("M", "K"), face("I", "J"), face("J", "I", "M"), face("K", "L"), face("L", "K")), 1, api.ErrHierLoop},
		{list(face("M", "K"), face("L", "K"), face("K", "L"), face("J", "I", "M"), face("I", "J")), 1, api.ErrHierLoop},
		{list(face("M", "N"), face("N", "L"), face("J", "I", "M"), face("K", "L"), face("I", "J"), face("L", "K")), 2, api.ErrHierLoop},
		// Two loops with one class in common, and loops in loops.
		{list(face("K", "I"), face("I", "J", "K"), face("J", "I")), 0, api.ErrHierLoop},
		{list(face("A", "B"), face("B", "C"), face("C", "D", "B"), face("D", "A", "C")), 0, api.ErrHierLoop},
		{list(face("X", "A"), face("A", "B"), face("B", "C"), face("C", "D", "B"), face("D", "E"), face("E", "C")), 2, api.ErrHierLoop},
		{list(face("X", "A", "C"), face("A", "B", "C"), face("B", "C"), face("C", "Y"), face("Y", "Z", "C"), face("Z")), 3, api.ErrHierLoop},
	})
}

// P6.1, step 4: one loop over many classes, wherever it is entered.
func TestLongLoops(t *testing.T) {
	for _, n := range []int{2, 3, 10, 64, 65, 300} {
		for _, tail := range []int{0, 1, 5} {
			var supers, likes []api.Class
			for i := range n + tail {
				up := i - 1
				if i == tail {
					up = n + tail - 1
				}
				if i < tail {
					up = i + 1
				}
				supers = append(supers, derived(fmt.Sprint("C", i), fmt.Sprint("C", up)))
				likes = append(likes, face(fmt.Sprint("C", i), fmt.Sprint("C", up)))
			}
			checkNew(t, supers, tail, api.ErrHierLoop)
			checkNew(t, likes, tail, api.ErrHierLoop)
			slices.Reverse(supers)
			slices.Reverse(likes)
			checkNew(t, supers, 0, api.ErrHierLoop)
			checkNew(t, likes, 0, api.ErrHierLoop)
		}
	}
}

// P6.1, step 5.
func TestFieldsThatAreInherited(t *testing.T) {
	a := fields(derived("A", "Object"), "x:int", "t:text transient")
	checkWrong(t, []wrong{
		{list(a, fields(derived("B", "A"), "x:int")), 1, api.ErrHierField},
		{list(a, fields(derived("B", "A"), "x:bool")), 1, api.ErrHierField},
		{list(a, fields(derived("B", "A"), "t:text")), 1, api.ErrHierField},
		{list(a, fields(derived("B", "A"), "x:int transient")), 1, api.ErrHierField},
		{list(a, fields(derived("B", "A"), "y:int", "z:int", "t:int")), 1, api.ErrHierField},
		{list(a, derived("B", "A"), fields(derived("C", "B"), "x:int")), 2, api.ErrHierField},
		{list(fields(derived("C", "B"), "x:int"), derived("B", "A"), a), 0, api.ErrHierField},
		{list(a, fields(derived("B", "A"), "y:int"), fields(derived("C", "B"), "z:int"), fields(derived("D", "C"), "y:int")), 3, api.ErrHierField},
		{list(a, fields(abstract("B", "A"), "x:int")), 1, api.ErrHierField},
		{list(fields(derived("A", "Fault"), "what:text")), 0, api.ErrHierField},
		{list(derived("A", "Fault"), fields(derived("B", "A"), "x:int", "what:int")), 1, api.ErrHierField},
	})
}

// P6.1, step 5.
func TestKindsThatDoNotExist(t *testing.T) {
	for _, kind := range []string{"Z", "Z[]", "Z[][]", "Z[][][]", "Int", "Objects", "Null", "Nullfault[]"} {
		checkWrong(t, []wrong{
			{list(fields(derived("A", "Object"), "x:"+kind)), 0, api.ErrHierKind},
			{list(fields(derived("A", "Object"), "x:A", "y:int", "z:"+kind)), 0, api.ErrHierKind},
			{list(fields(derived("A", "Object"), "x:"+kind+" transient")), 0, api.ErrHierKind},
			{list(does(derived("A", "Object"), "f("+kind+")")), 0, api.ErrHierKind},
			{list(does(derived("A", "Object"), "f()", "g(int,A,"+kind+")int")), 0, api.ErrHierKind},
			{list(does(derived("A", "Object"), "f()"+kind)), 0, api.ErrHierKind},
			{list(does(derived("A", "Object"), "f(A)A", "g(A)"+kind)), 0, api.ErrHierKind},
			{list(wants(face("A"), "f("+kind+",int)")), 0, api.ErrHierKind},
			{list(wants(face("A"), "f()int", "g()"+kind)), 0, api.ErrHierKind},
			{list(wants(does(abstract("A", "Object"), "f()"), "g("+kind+")")), 0, api.ErrHierKind},
			{list(fields(derived("A", "Object"), "x:int"), fields(derived("B", "A"), "y:"+kind)), 1, api.ErrHierKind},
			// At the class that names it, not at one that inherits it.
			{list(derived("B", "A"), does(derived("A", "Object"), "f()"+kind)), 1, api.ErrHierKind},
		})
	}
}

// P6.1, step 5.
func TestSignatures(t *testing.T) {
	signs := []string{"f()", "f()int", "f()bool", "f(int)", "f(int)int", "f(int,int)", "f(int[])", "f(A)", "f(A)A", "f(B)", "f(Object)", "f()A", "f()B", "f()Object", "f(int,bool)", "f(bool,int)"}
	for _, a := range signs {
		for _, b := range signs {
			e := api.ErrHierOver
			if a == b {
				e = api.OK
			}
			for _, x := range []wrong{
				// Of the class and those from which it is derived.
				{list(does(derived("A", "Object"), a), does(derived("B", "A"), b)), 1, e},
				{list(does(derived("B", "A"), b), does(derived("A", "Object"), a)), 0, e},
				{list(does(derived("A", "Object"), a), derived("B", "A"), does(derived("C", "B"), b)), 2, e},
				{list(wants(abstract("A", "Object"), a), wants(abstract("B", "A"), b)), 1, e},
				{list(does(derived("A", "Object"), a), wants(abstract("B", "A"), b)), 1, e},
				{list(derived("A", "Object"), does(derived("B", "A"), a), does(derived("C", "B"), "g()", a), does(derived("D", "C"), b)), 3, e},
				// Of the class and its interfaces.
				{list(derived("A", "Object"), wants(face("I"), a), does(derived("B", "Object", "I"), b)), 2, e},
				{list(derived("A", "Object"), wants(face("I"), a), face("J", "I"), does(derived("B", "Object", "J"), b)), 3, e},
				{list(derived("A", "Object"), wants(face("I"), a), face("J"), wants(abstract("B", "Object", "J", "I"), b)), 3, e},
				{list(derived("A", "Object"), derived("B", "A"), wants(face("I"), a), wants(face("J", "I"), b)), 3, e},
				// Of a class above and an interface.
				{list(wants(face("I"), a), does(derived("A", "Object"), b), derived("B", "A", "I")), 2, e},
				{list(wants(face("I"), a), wants(abstract("A", "Object"), b), abstract("B", "A", "I")), 2, e},
				{list(derived("A", "Object"), wants(face("I"), a), abstract("B", "Object", "I"), abstract("C", "B"), does(derived("D", "C"), b)), 4, e},
				{list(wants(face("I"), a), face("J", "I"), does(derived("A", "Object"), b), derived("B", "A"), derived("C", "B", "J")), 4, e},
				// Of two interfaces: of a class that has both, of one that has the other one by its Super, and of an interface.
				{list(derived("A", "Object"), derived("B", "A"), wants(face("I"), a), wants(face("J"), b), abstract("C", "Object", "I", "J")), 4, e},
				{list(derived("A", "Object"), derived("B", "A"), wants(face("I"), a), wants(face("J"), b), abstract("C", "Object", "I"), abstract("D", "C", "J")), 5, e},
				{list(derived("A", "Object"), derived("B", "A"), wants(face("I"), a), wants(face("J"), b), abstract("C", "Object", "I"), abstract("D", "C"), abstract("E", "D", "J")), 6, e},
				{list(derived("A", "Object"), derived("B", "A"), wants(face("I"), a), wants(face("J"), b), face("K", "I"), face("L", "J"), face("M", "K", "L")), 6, e},
				{list(derived("A", "Object"), derived("B", "A"), wants(face("I"), a), wants(face("J"), b), face("K", "I", "J")), 4, e},
			} {
				if e == api.OK {
					x.at = 0
				}
				checkNew(t, x.l, x.at, x.e)
			}
		}
	}
}

// P6.1, step 5: the names of parameters are not mixed up by what stands between them, nor methods of different names.
func TestSignaturesThatDifferALittle(t *testing.T) {
	checkWrong(t, []wrong{
		{list(derived("AB", "Object"), derived("A", "Object"), derived("B", "Object"), does(derived("C", "Object"), "f(AB)"), does(derived("D", "C"), "f(A,B)")), 4, api.ErrHierOver},
		{list(does(derived("A", "Object"), "g()", "f(int)"), does(derived("B", "A"), "h()", "f(text)")), 1, api.ErrHierOver},
		{list(does(derived("A", "Object"), "g()", "f(int)"), does(derived("B", "A"), "f(text)", "g()")), 1, api.ErrHierOver},
	})
	table(t, does(derived("A", "Object"), "f()", "g()int", "h(int)"), does(derived("B", "A"), "ff()int", "gg()", "hh()", "f()"), does(derived("C", "B"), "hh()", "h(int)"))
}

// P6.1, step 5.
func TestMethodsThatLack(t *testing.T) {
	i, j := wants(face("I"), "f()"), wants(face("J", "I"), "g()")
	both := wants(abstract("A", "Object"), "f()", "g()")
	checkWrong(t, []wrong{
		// Of a class above.
		{list(both, derived("B", "A")), 1, api.ErrHierLacks},
		{list(both, final("B", "A")), 1, api.ErrHierLacks},
		{list(both, does(derived("B", "A"), "f()")), 1, api.ErrHierLacks},
		{list(both, does(derived("B", "A"), "g()")), 1, api.ErrHierLacks},
		{list(both, does(derived("B", "A"), "h()", "ff()")), 1, api.ErrHierLacks},
		{list(both, does(abstract("B", "A"), "f()"), derived("C", "B")), 2, api.ErrHierLacks},
		{list(both, abstract("B", "A"), abstract("C", "B"), does(derived("D", "C"), "g()")), 3, api.ErrHierLacks},
		{list(derived("D", "C"), abstract("C", "B"), abstract("B", "A"), both), 0, api.ErrHierLacks},
		{list(does(wants(abstract("A", "Object"), "f()"), "g()"), derived("B", "A")), 1, api.ErrHierLacks},
		// Of a class that makes it abstract again.
		{list(does(derived("A", "Object"), "f()"), wants(abstract("B", "A"), "f()"), derived("C", "B")), 2, api.ErrHierLacks},
		{list(does(derived("A", "Object"), "f()"), wants(abstract("B", "A"), "f()"), abstract("C", "B"), does(derived("D", "C"), "g()")), 3, api.ErrHierLacks},
		{list(both, does(derived("B", "A"), "f()", "g()"), wants(abstract("C", "B"), "g()"), does(derived("D", "C"), "f()")), 3, api.ErrHierLacks},
		{list(i, does(derived("A", "Object", "I"), "f()"), wants(abstract("B", "A"), "f()"), derived("C", "B", "I")), 3, api.ErrHierLacks},
		// Of an interface.
		{list(i, derived("A", "Object", "I")), 1, api.ErrHierLacks},
		{list(i, does(derived("A", "Object", "I"), "g()")), 1, api.ErrHierLacks},
		{list(i, j, does(derived("A", "Object", "J"), "g()")), 2, api.ErrHierLacks},
		{list(i, j, does(derived("A", "Object", "J"), "f()")), 2, api.ErrHierLacks},
		{list(i, j, does(derived("A", "Object", "I"), "f()"), derived("B", "A", "J")), 3, api.ErrHierLacks},
		{list(i, derived("A", "Object"), derived("B", "A", "I")), 2, api.ErrHierLacks},
		{list(face("K"), i, derived("A", "Object", "K", "I")), 2, api.ErrHierLacks},
		{list(wants(face("K"), "k()"), i, does(derived("A", "Object", "K", "I"), "k()")), 2, api.ErrHierLacks},
		// Of an interface of a class above.
		{list(i, abstract("A", "Object", "I"), derived("B", "A")), 2, api.ErrHierLacks},
		{list(i, j, abstract("A", "Object", "J"), does(abstract("B", "A"), "g()"), derived("C", "B")), 4, api.ErrHierLacks},
		{list(i, j, does(abstract("A", "Object", "J"), "f()"), abstract("B", "A"), derived("C", "B", "I")), 4, api.ErrHierLacks},
		{list(i, does(derived("A", "Object"), "f()"), abstract("B", "A", "I"), derived("C", "B"), wants(abstract("D", "C", "I"), "f()"), derived("E", "D")), 5, api.ErrHierLacks},
	})
}

// P6.1, step 5: a class is visited behind its Super and its interfaces, wherever it stands.
func TestOrderOfVisits(t *testing.T) {
	z := func(c api.Class) api.Class { return fields(c, "z:Z") }
	f := func(c api.Class) api.Class { return wants(c, "bad()Z") }
	checkWrong(t, []wrong{
		{list(z(derived("B", "A")), z(derived("A", "Object"))), 1, api.ErrHierKind},
		{list(z(derived("A", "Object")), z(derived("B", "A"))), 0, api.ErrHierKind},
		{list(z(derived("C", "B")), z(derived("B", "A")), z(derived("A", "Object"))), 2, api.ErrHierKind},
		{list(z(derived("C", "B")), z(derived("A", "Object")), derived("B", "A")), 1, api.ErrHierKind},
		{list(derived("C", "B"), z(derived("D", "Object")), z(derived("B", "A")), derived("A", "Object")), 2, api.ErrHierKind},
		{list(z(derived("C", "Object", "I")), f(face("I"))), 1, api.ErrHierKind},
		{list(z(derived("C", "Object", "I", "J")), f(face("J")), f(face("I"))), 2, api.ErrHierKind},
		{list(z(derived("C", "Object", "J", "I")), f(face("J")), f(face("I"))), 1, api.ErrHierKind},
		{list(abstract("C", "Object", "J", "I"), f(face("I", "J")), f(face("J", "K")), f(face("K"))), 3, api.ErrHierKind},
		{list(abstract("C", "Object", "J", "I"), f(face("I", "J")), f(face("J", "K")), face("K")), 2, api.ErrHierKind},
		// The Super, and what is above it, comes before the interfaces.
		{list(derived("C", "B", "I"), f(face("I")), z(derived("B", "Object"))), 2, api.ErrHierKind},
		{list(abstract("C", "B", "I"), f(face("I")), z(abstract("B", "Object", "J")), f(face("J"))), 3, api.ErrHierKind},
		{list(abstract("C", "B", "I"), f(face("I")), z(abstract("B", "A")), z(derived("A", "Object"))), 3, api.ErrHierKind},
		{list(abstract("C", "B", "I"), f(face("I", "K")), f(face("K")), abstract("B", "A", "K"), derived("A", "Object")), 2, api.ErrHierKind},
		// A later error of an earlier class, and another error of each.
		{list(fields(derived("B", "A"), "x:int"), fields(does(derived("A", "Object"), "f()Z"), "x:int")), 1, api.ErrHierKind},
		{list(fields(derived("B", "A"), "x:int"), fields(derived("A", "Object", "I"), "x:int"), wants(face("I"), "f()")), 1, api.ErrHierLacks},
		{list(z(derived("B", "A")), does(derived("A", "Object", "I"), "f(int)"), wants(face("I"), "f()")), 1, api.ErrHierOver},
		{list(derived("D", "C"), z(derived("B", "Object")), abstract("A", "Object"), wants(abstract("C", "A", "I", "J"), "g()"), wants(face("J"), "f()"), wants(face("I"), "f(int)")), 3, api.ErrHierOver},
		// Of one class, in the order of the errors.
		{list(fields(derived("A", "Object"), "x:int"), fields(derived("B", "A"), "x:Z")), 1, api.ErrHierField},
		{list(fields(derived("A", "Object"), "x:int"), fields(derived("B", "A"), "y:Z", "x:int")), 1, api.ErrHierField},
		{list(does(derived("A", "Object"), "f()"), does(derived("B", "A"), "f(Z)")), 1, api.ErrHierKind},
		{list(wants(face("I"), "f()", "g()"), does(derived("B", "Object", "I"), "f(int)")), 1, api.ErrHierOver},
		{list(wants(face("I"), "f()", "g()"), does(derived("B", "Object", "I"), "h(Z)")), 1, api.ErrHierKind},
		{list(fields(derived("A", "Object"), "x:int"), wants(face("I"), "f()"), fields(derived("B", "A", "I"), "x:int")), 2, api.ErrHierField},
		{list(wants(face("I"), "f(int)"), wants(face("J"), "f()"), derived("B", "Object", "I", "J")), 2, api.ErrHierOver},
	})
}

// P6.1: several errors at once, each before and behind each other one. A step ends before the next one begins; in one step the first class with an error is meant.
func TestSeveralErrors(t *testing.T) {
	type group struct {
		step int
		wrong
	}
	groups := func(p string) []group {
		name := func(c api.Class) api.Class {
			c.Name = p + c.Name
			for i := range c.Like {
				c.Like[i] = p + c.Like[i]
			}
			return c
		}
		return []group{
			{1, wrong{list(name(derived("A", "a"))), 0, api.ErrClassForm}},
			{1, wrong{list(name(derived("A", "Object")), name(fields(derived("B", "Object"), slices.Repeat([]string{"x:int"}, 33)...))), 1, api.ErrClassMany}},
			{2, wrong{list(name(derived("A", "Object")), name(derived("A", "Object"))), 1, api.ErrHierName}},
			{2, wrong{list(derived("ZeroFault", "Object")), 0, api.ErrHierName}},
			{3, wrong{list(name(face("I")), name(derived("A", p+"I"))), 1, api.ErrHierSuper}},
			{3, wrong{list(name(derived("A", "Object")), name(derived("B", p+"A", "A"))), 1, api.ErrHierLike}},
			{4, wrong{list(name(derived("C", p+"A")), name(derived("A", p+"B")), name(derived("B", p+"A"))), 1, api.ErrHierLoop}},
			{4, wrong{list(name(face("I", "J")), name(face("J", "I"))), 0, api.ErrHierLoop}},
			{5, wrong{list(name(fields(derived("A", "Fault"), "what:int"))), 0, api.ErrHierField}},
			{5, wrong{list(name(derived("B", p+"A")), name(fields(derived("A", "Object"), "x:Z"))), 1, api.ErrHierKind}},
			{5, wrong{list(name(does(derived("A", "Object"), "f()")), name(does(derived("B", p+"A"), "f(int)"))), 1, api.ErrHierOver}},
			{5, wrong{list(name(derived("A", "Object", "I")), name(wants(face("I"), "f()"))), 0, api.ErrHierLacks}},
		}
	}
	for _, x := range groups("X") {
		for _, y := range groups("Y") {
			at, e := x.at, x.e
			if y.step < x.step {
				at, e = len(x.l)+y.at, y.e
			}
			checkNew(t, slices.Concat(x.l, y.l), at, e)
			for _, z := range groups("Z") {
				if z.step < min(x.step, y.step) {
					checkNew(t, slices.Concat(x.l, y.l, z.l), len(x.l)+len(y.l)+z.at, z.e)
					checkNew(t, slices.Concat(x.l, z.l, y.l), len(x.l)+z.at, z.e)
				} else if min(x.step, y.step) < z.step {
					checkNew(t, slices.Concat(x.l, y.l, z.l), at, e)
				}
			}
		}
	}
}

// P6.1: the index is that of the class in the list, far behind too.
func TestIndexes(t *testing.T) {
	var good []api.Class
	for i := range 200 {
		good = append(good, fields(derived(fmt.Sprint("G", i), "Object"), "x:int"))
	}
	for _, at := range []int{0, 1, 7, 8, 9, 100, 199} {
		for _, x := range []struct {
			c api.Class
			e api.Errno
		}{
			{derived("A", "a"), api.ErrClassForm},
			{derived("Fault", "Object"), api.ErrHierName},
			{derived("A", "Z"), api.ErrHierSuper},
			{derived("A", "G199", "G7"), api.ErrHierLike},
			{fields(derived("A", "G199"), "x:int"), api.ErrHierField},
			{does(derived("A", "G199"), "f(Z)"), api.ErrHierKind},
		} {
			checkNew(t, slices.Insert(slices.Clone(good), at, x.c), at, x.e)
		}
	}
}

// deep returns a copy of classes that shares nothing with them.
func deep(l []api.Class) []api.Class {
	l = slices.Clone(l)
	for i := range l {
		l[i].Like = slices.Clone(l[i].Like)
		l[i].Fields = slices.Clone(l[i].Fields)
		l[i].Methods = slices.Clone(l[i].Methods)
		for j := range l[i].Methods {
			m := &l[i].Methods[j]
			m.Params, m.Code, m.Catches = slices.Clone(m.Params), slices.Clone(m.Code), slices.Clone(m.Catches)
		}
	}
	return l
}

// spare gives all lists of a list of classes unused capacity that holds what one of its elements holds.
func spare(v reflect.Value) {
	switch v.Kind() {
	case reflect.Struct:
		for i := range v.NumField() {
			spare(v.Field(i))
		}
	case reflect.Slice:
		n := v.Len()
		l := reflect.MakeSlice(v.Type(), 0, n+3)
		l = reflect.AppendSlice(l, v)
		for i := range n {
			spare(l.Index(i))
		}
		if n > 0 {
			l = reflect.Append(l, l.Index(0), l.Index(n-1), l.Index(0)).Slice(0, n)
		}
		v.Set(l)
	}
}

// whole shows a list of classes with the unused capacity of all lists.
func whole(v reflect.Value) string {
	switch v.Kind() {
	case reflect.Struct:
		s := "{"
		for i := range v.NumField() {
			s += whole(v.Field(i)) + " "
		}
		return s + "}"
	case reflect.Slice:
		s := fmt.Sprint(v.Len(), "[")
		for i := range v.Cap() {
			s += whole(v.Slice(0, v.Cap()).Index(i)) + " "
		}
		return s + "]"
	}
	return fmt.Sprint(v.Interface())
}

// P6.1, P1: what is handed in stays as it is, with its unused capacity.
func TestArgumentsStay(t *testing.T) {
	for _, l := range [][]api.Class{zoo(), zoo()[:3], list(derived("A", "B"), derived("B", "A")), list(api.Class{}), list(face("I"), derived("A", "I"))} {
		l = deep(l)
		spare(reflect.ValueOf(&l).Elem())
		before := whole(reflect.ValueOf(l))
		if h, _, e := hier.New(l); e == api.OK {
			for _, name := range h.Names() {
				h.Get(name)
				h.Fields(name)
				h.Method(name, "see")
			}
		}
		if whole(reflect.ValueOf(l)) != before {
			t.Errorf("New changed what it was given:%s", show(l))
		}
	}
}
