package verify_test

import (
	"slices"
	"strings"
	"testing"

	"squinch/api"
	"squinch/hier"
	"squinch/verify"
)

func checkAll(t *testing.T, h *hier.Table, class, name string, at int, e api.Errno) {
	t.Helper()
	gotClass, gotName, gotAt, gotE := verify.All(h)
	if gotClass != class || gotName != name || gotAt != at || gotE != e {
		t.Errorf("All: %q, %q, %d, %d, want %q, %q, %d, %d", gotClass, gotName, gotAt, gotE, class, name, at, e)
	}
}

// P8.2: no error, without any methods and with many.
func TestAllRight(t *testing.T) {
	checkAll(t, table(t), "", "", 0, api.OK)
	checkAll(t, zoo(t), "", "", 0, api.OK)
}

// P8.2: the first class in the order of Names, and its first method.
func TestFirstErrorOfAll(t *testing.T) {
	right, stack, kind := method(t, "right() 1", "return"), method(t, "stack() 1", "true; pop; pop; return"), method(t, "kind() 1", "null; not; return")
	fall := method(t, "fall() 1", "true")
	name := method(t, "name() 1", "return; pop; return", caught(0, 1, 1, "Z"))
	local := method(t, "local(int) 2", "load 1; pop; load 0; pop; load 2; return")
	own := func(super, class string, l ...api.Method) api.Class {
		return api.Class{Name: class, Super: super, Methods: l}
	}
	for _, x := range []struct {
		class, method string
		at            int
		e             api.Errno
		classes       []api.Class
	}{
		{"A", "stack", 2, api.ErrVerifyStack, []api.Class{own("Object", "A", stack)}},
		{"A", "stack", 2, api.ErrVerifyStack, []api.Class{own("Object", "A", right, stack, kind, fall)}},
		{"A", "kind", 1, api.ErrVerifyKind, []api.Class{own("Object", "A", right, kind, stack, fall)}},
		{"A", "fall", 0, api.ErrVerifyFall, []api.Class{own("Object", "A", fall, kind, stack, right)}},
		{"A", "name", 0, api.ErrVerifyName, []api.Class{own("Object", "A", right, name, stack)}},
		{"A", "local", 4, api.ErrVerifyLocal, []api.Class{own("Object", "A", local)}},
		// The order of the classes is that in which they were given, not that of their names or of what they are derived from.
		{"A", "stack", 2, api.ErrVerifyStack, []api.Class{own("Object", "A", stack), own("Object", "B", kind)}},
		{"B", "kind", 1, api.ErrVerifyKind, []api.Class{own("Object", "B", kind), own("Object", "A", stack)}},
		{"B", "kind", 1, api.ErrVerifyKind, []api.Class{own("A", "B", kind), own("Object", "A", stack)}},
		{"A", "stack", 2, api.ErrVerifyStack, []api.Class{own("A", "B", right), own("Object", "A", stack)}},
		{"C", "fall", 0, api.ErrVerifyFall, []api.Class{own("A", "B", right), own("Object", "A", right), own("B", "C", right, fall)}},
		// A method is right where it stands: only own methods count, with their own class as that of the object.
		{"B", "stack", 2, api.ErrVerifyStack, []api.Class{own("A", "B", stack), own("Object", "A", method(t, "stack() 1", "return"))}},
		{"A", "need", 1, api.ErrVerifyKind, []api.Class{{Name: "B", Super: "A", Fields: []api.Field{{Name: "y", Kind: "int"}}, Methods: []api.Method{method(t, "other()int 1", "load 0; get B.y; return")}}, own("Object", "A", method(t, "need()int 1", "load 0; get B.y; return"))}},
		// Classes derived from predefined ones, and abstract methods, which have no instructions.
		{"F", "kind", 1, api.ErrVerifyKind, []api.Class{{Name: "I", Super: "Object", Interface: true, Abstract: true, Methods: []api.Method{method(t, "go(int)I", "")}}, {Name: "T", Super: "Fault", Abstract: true, Like: []string{"I"}, Methods: []api.Method{method(t, "stop()T", ""), right}}, own("Fault", "F", right, kind)}},
	} {
		checkAll(t, table(t, x.classes...), x.class, x.method, x.at, x.e)
	}
}

// P8.2: tables of random methods, against the second definition.
func TestAllOfRandomMethods(t *testing.T) {
	d, plain := newDice(5), zoo(t)
	right, wrong := 0, 0
	for range 400 {
		l := append(zooClasses(t), api.Class{Name: "L", Super: "K"}, api.Class{Name: "M", Super: "D"}, api.Class{Name: "K", Super: "M"})
		for i := len(l) - 3; i < len(l); i++ {
			for _, name := range []string{"first", "second"} {
				m := d.method()
				for d.Intn(8) > 0 && !accepted(plain, "D", m) {
					m = d.method()
				}
				m.Name = name + l[i].Name
				l[i].Methods = append(l[i].Methods, m)
			}
		}
		h, _, e := hier.New(l)
		if e != api.OK {
			continue
		}
		class, name, at, e := firstError(h, l)
		checkAll(t, h, class, name, at, e)
		if e == api.OK {
			right++
		} else {
			wrong++
		}
	}
	if right < 50 || wrong < 50 {
		t.Errorf("only %d tables that are right, and %d with errors", right, wrong)
	}
}

func accepted(h *hier.Table, class string, m api.Method) bool {
	_, _, e := wanted(h, class, m)
	return e == api.OK
}

// firstError returns the first error of classes by the second definition.
func firstError(h *hier.Table, l []api.Class) (string, string, int, api.Errno) {
	for _, c := range l {
		for _, m := range c.Methods {
			if _, at, e := wanted(h, c.Name, m); e != api.OK {
				return c.Name, m.Name, at, e
			}
		}
	}
	return "", "", 0, api.OK
}

func checkFits(t *testing.T, h *hier.Table, s api.Shape, stack, locals string, want bool) {
	t.Helper()
	unset := func(s string) []string {
		l := strings.Fields(s)
		for i := range l {
			l[i] = strings.TrimPrefix(l[i], "-")
		}
		return l
	}
	if got := verify.Fits(h, s, unset(stack), unset(locals)); got != want {
		t.Errorf("Fits of %q, %q for %s: %v", stack, locals, show([]api.Shape{s}), got)
	}
}

// P8.2: what Fits asks for, one thing after the other.
func TestFits(t *testing.T) {
	h := zoo(t)
	s := api.Shape{Seen: true, Stack: []string{"int", "A"}, Locals: []string{"I", "", "bool"}}
	for _, x := range []struct {
		stack, locals string
		want          bool
	}{
		{"int A", "I - bool", true}, {"int B", "B - bool", true}, {"int null", "null - bool", true}, {"int D", "C int bool", true}, {"int A", "I Z bool", true}, {"int A", "I null[] bool", true},
		{"", "I - bool", false}, {"int", "I - bool", false}, {"A", "I - bool", false}, {"int A A", "I - bool", false}, {"int int A", "I - bool", false}, {"A int", "I - bool", false},
		{"int A", "", false}, {"int A", "I -", false}, {"int A", "I bool", false}, {"int A", "I - bool -", false}, {"int A", "- - bool", false}, {"int A", "I - -", false}, {"int A", "bool - I", false},
		{"int Object", "I - bool", false}, {"int A[]", "I - bool", false}, {"bool A", "I - bool", false}, {"null A", "I - bool", false}, {"int Z", "I - bool", false}, {"Z A", "I - bool", false}, {"- A", "I - bool", false}, {"int -", "I - bool", false},
		{"int A", "A - bool", false}, {"int A", "Object - bool", false}, {"int A", "I - int", false}, {"int A", "I - null", false}, {"int A", "Z - bool", false}, {"int A", "I[] - bool", false},
	} {
		checkFits(t, h, s, x.stack, x.locals, x.want)
		unseen := s
		unseen.Seen = false
		checkFits(t, h, unseen, x.stack, x.locals, false)
	}
	checkFits(t, h, api.Shape{Seen: true}, "", "", true)
	checkFits(t, h, api.Shape{Seen: true}, "int", "", false)
	checkFits(t, h, api.Shape{Seen: true}, "", "int", false)
	checkFits(t, h, api.Shape{Seen: true}, "", "-", false)
	checkFits(t, h, api.Shape{}, "", "", false)
	// A kind that does not exist has no subkinds, not even itself, wherever it stands but in a local that is not set.
	checkFits(t, h, api.Shape{Seen: true, Stack: []string{"Z"}}, "Z", "", false)
	checkFits(t, h, api.Shape{Seen: true, Stack: []string{""}}, "-", "", false)
	checkFits(t, h, api.Shape{Seen: true, Locals: []string{"Z"}}, "", "Z", false)
	checkFits(t, h, api.Shape{Seen: true, Locals: []string{"Z"}}, "", "null", false)
	many := strings.Repeat("B ", 1<<16)
	checkFits(t, h, api.Shape{Seen: true, Stack: slices.Repeat([]string{"A"}, 1<<16), Locals: slices.Repeat([]string{"I"}, 1<<16)}, many, many, true)
	checkFits(t, h, api.Shape{Seen: true, Stack: slices.Repeat([]string{"A"}, 1<<16), Locals: slices.Repeat([]string{"I"}, 1<<16)}, many, many[2:]+"A", false)
}

// P8.2: Fits of single kinds, by Sub of chapter 6.
func TestFitsOfAllPairs(t *testing.T) {
	h := zoo(t)
	kinds := append(h.Names(), strings.Fields("int bool text null A[] B[] I[][] int[] Z Z[] a")...)
	for _, a := range kinds {
		for _, b := range kinds {
			checkFits(t, h, api.Shape{Seen: true, Stack: []string{"A", b}}, "B "+a, "", h.Sub(a, b))
			checkFits(t, h, api.Shape{Seen: true, Locals: []string{b, "", "A"}}, "", a+" "+a+" B", h.Sub(a, b))
			checkFits(t, h, api.Shape{Seen: true, Stack: []string{b}, Locals: []string{b}}, a, a, h.Sub(a, b))
		}
	}
}
