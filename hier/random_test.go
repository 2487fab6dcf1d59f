package hier_test

import (
	"fmt"
	"math/rand"
	"reflect"
	"slices"
	"strings"
	"testing"

	"squinch/api"
	"squinch/hier"
)

// maker makes hierarchies at random: wild ones, of which nearly all have errors, to tame ones.
type maker struct {
	*rand.Rand
	wild int // of 100 choices, how many may be anything
}

func (m maker) one(l ...string) string { return l[m.Intn(len(l))] }

func (m maker) odds(percent int) bool { return m.Intn(100) < percent }

// classes returns some classes, those above before those below, and then in another order.
func (m maker) classes() []api.Class {
	var l []api.Class
	bodies, faces := []string{"Object", "Object", "Fault"}, []string{}
	for _, name := range strings.Fields("A B C D E F G H")[:1+m.Intn(8)] {
		c := derived(name, m.one(bodies...))
		switch m.Intn(5) {
		case 0, 1:
			c = face(name)
		case 2:
			c.Abstract = true
		case 3:
			c.Final = m.odds(30)
		}
		for _, s := range faces {
			if m.odds(40) {
				c.Like = append(c.Like, s)
			}
		}
		m.Shuffle(len(c.Like), func(i, j int) { c.Like[i], c.Like[j] = c.Like[j], c.Like[i] })
		c = m.members(c)
		if c.Interface {
			faces = append(faces, name)
		} else if !c.Final {
			bodies = append(bodies, name)
		}
		l = append(l, m.spoil(c))
	}
	if m.odds(m.wild) {
		m.tie(&l[m.Intn(len(l))], l[m.Intn(len(l))])
	}
	m.Shuffle(len(l), func(i, j int) { l[i], l[j] = l[j], l[i] })
	return l
}

// tie lays a class below another one, which may be below it already.
func (m maker) tie(c *api.Class, up api.Class) {
	if c.Name != up.Name && up.Interface && !slices.Contains(c.Like, up.Name) {
		c.Like = append(c.Like, up.Name)
	} else if c.Name != up.Name && !c.Interface && !up.Final {
		c.Super = up.Name
	}
}

func (m maker) members(c api.Class) api.Class {
	for _, name := range []string{"f", "g", "h"} {
		if !m.odds(45) {
			continue
		}
		s := map[string]string{"f": "f()", "g": "g(int,A)bool", "h": "h()A[]"}[name]
		if m.odds(m.wild) {
			s = name + m.one("()int", "(int)", "(A)", "()", "(B)B")
		}
		if c.Interface || c.Abstract && m.odds(50) {
			c = wants(c, s)
		} else {
			c = does(c, s)
		}
	}
	for _, name := range []string{"x" + c.Name, "y" + c.Name, "z"} {
		if m.odds(40) && !c.Interface && (name != "z" || m.odds(3*m.wild)) {
			c = fields(c, name+":"+m.one("int", "A", "A[][]", "text transient", "Object[]", "Fault"))
		}
	}
	return c
}

// spoil changes a class to something that need not be right.
func (m maker) spoil(c api.Class) api.Class {
	any := strings.Fields("A B C D E F G H Z Object Fault ZeroFault")
	if m.odds(m.wild/2) && !c.Interface {
		c.Super = m.one(any...)
	}
	if m.odds(m.wild / 2) {
		c.Like = append(c.Like, m.one(any...))
	}
	if m.odds(m.wild / 6) {
		c.Name = m.one(any...)
	}
	if m.odds(m.wild / 6) {
		c = fields(c, m.one("a", "b", "what")+":"+m.one("int", "Z", "Z[]", "B", "null", "C[][][][]"))
	}
	if m.odds(m.wild / 6) {
		c = does(c, m.one("k", "l")+m.one("()Z", "(Z)", "(H)", "(A[][][],Z)A"))
	}
	if m.odds(m.wild / 6) {
		c.Abstract, c.Final = m.odds(50), m.odds(50)
	}
	return c
}

// P1, P6.1: all errors, many at once, against the second definition.
func TestNewAgainstSecondDefinition(t *testing.T) {
	seen := map[api.Errno]int{}
	for i := range 30000 {
		m := maker{rand.New(rand.NewSource(int64(i))), []int{0, 5, 15, 30, 60}[i%5]}
		l := m.classes()
		at, e := wanted(l)
		seen[e]++
		if h, gotAt, gotE := hier.New(l); gotAt != at || gotE != e || (h != nil) != (e == api.OK) {
			t.Fatalf("New: table %v, %d, %d, want %d, %d, of%s", h != nil, gotAt, gotE, at, e, show(l))
		}
	}
	for _, e := range []api.Errno{api.OK, api.ErrClassForm, api.ErrHierName, api.ErrHierSuper, api.ErrHierLike, api.ErrHierLoop, api.ErrHierField, api.ErrHierKind, api.ErrHierOver, api.ErrHierLacks} {
		if seen[e] < 100 {
			t.Errorf("only %d hierarchies with error %d", seen[e], e)
		}
	}
}

// P6.1: loops of all forms, against the second definition.
func TestLoopsAgainstSecondDefinition(t *testing.T) {
	dice := rand.New(rand.NewSource(1))
	seen := map[int]int{}
	for range 20000 {
		n := 2 + dice.Intn(8)
		l := make([]api.Class, n)
		for i := range l {
			l[i] = face(fmt.Sprint("I", i))
			for j := range n {
				if i != j && dice.Intn(2*n) < 2 {
					l[i].Like = append(l[i].Like, fmt.Sprint("I", j))
				}
			}
			if i%3 == 1 && dice.Intn(2) == 0 {
				l[i] = derived(fmt.Sprint("I", i), fmt.Sprint("I", (i+3)%n))
			}
		}
		at, e := wanted(l)
		if e == api.ErrHierLoop {
			seen[at]++
		}
		if h, gotAt, gotE := hier.New(l); gotAt != at || gotE != e || (h != nil) != (e == api.OK) {
			t.Fatalf("New: table %v, %d, %d, want %d, %d, of%s", h != nil, gotAt, gotE, at, e, show(l))
		}
	}
	for at := range 6 {
		if seen[at] < 10 {
			t.Errorf("only %d loops at %d", seen[at], at)
		}
	}
}

// tables passes random hierarchies without an error.
func tables(t *testing.T, n int, visit func(h *hier.Table, m model)) {
	t.Helper()
	met := map[bool]int{}
	for i := 0; n > 0; i++ {
		l := maker{rand.New(rand.NewSource(int64(i))), 0}.classes()
		if h, _, e := hier.New(l); e == api.OK && len(l) > 3 {
			visit(h, modelOf(l))
			met[slices.ContainsFunc(l, func(c api.Class) bool { return len(c.Like) > 1 && len(c.Methods) > 1 })]++
			n--
		}
	}
	if met[true] < 20 {
		t.Errorf("only %d hierarchies with classes of several interfaces", met[true])
	}
}

func kindsOf(m model) []string {
	l := []string{"int", "bool", "text", "null", "int[]", "int[][][]", "", "Z", "Z[]", "null[]", "int[][][][]"}
	for _, name := range m.names() {
		l = append(l, name)
		if len(name) == 1 || name == "Object" {
			l = append(l, name+"[]", name+"[][]", name+"[][][][]")
		}
	}
	return l
}

// P6.2: every call, against the second definition.
func TestCallsAgainstSecondDefinition(t *testing.T) {
	tables(t, 300, func(h *hier.Table, m model) {
		if !slices.Equal(h.Names(), m.names()) {
			t.Fatalf("Names() = %v, of%s", h.Names(), show(m))
		}
		for _, a := range kindsOf(m) {
			c, ok := h.Get(a)
			d, found := m.get(a)
			if ok != found || !same(list(c), list(d)) || h.Kind(a) != m.kind(a) || h.Objects(a) != (found && !d.Abstract) || h.Print(a) != m.print(a) || fmt.Sprint(h.Fields(a)) != fmt.Sprint(m.fields(a)) {
				t.Fatalf("%s: %+v, %v, Kind %v, Objects %v, Print %q, Fields %v, of%s", a, c, ok, h.Kind(a), h.Objects(a), h.Print(a), h.Fields(a), show(m))
			}
			for _, s := range []string{"f", "g", "h", "xA", "yB", "z", "what"} {
				owner, x, ok := h.Method(a, s)
				owner2, x2, ok2 := m.method(a, s)
				if owner != owner2 || ok != ok2 || fmt.Sprint(x) != fmt.Sprint(x2) || h.Place(a, s) != m.place(a, s) {
					t.Fatalf("Method(%s, %s) = %s, %+v, %v, Place %d, want %s, %+v, %v, %d, of%s", a, s, owner, x, ok, h.Place(a, s), owner2, x2, ok2, m.place(a, s), show(m))
				}
			}
			for _, b := range kindsOf(m) {
				if h.Sub(a, b) != m.sub(a, b) || h.Join(a, b) != m.join(a, b) {
					t.Fatalf("Sub(%s, %s) = %v, want %v, Join %q, want %q, of%s", a, b, h.Sub(a, b), m.sub(a, b), h.Join(a, b), m.join(a, b), show(m))
				}
			}
		}
	})
}

// P6.3
func TestConsequences(t *testing.T) {
	tables(t, 250, func(h *hier.Table, m model) {
		kinds := kindsOf(m)
		for _, a := range kinds {
			for _, b := range kinds {
				if join := h.Join(a, b); join != "" && (!h.Sub(a, join) || !h.Sub(b, join)) {
					t.Fatalf("Join(%s, %s) = %s is not above both, of%s", a, b, join, show(m))
				}
				if !h.Sub(a, b) {
					continue
				}
				for _, c := range kinds {
					if h.Sub(b, c) && !h.Sub(a, c) {
						t.Fatalf("%s, %s and %s are not transitive, of%s", a, b, c, show(m))
					}
				}
				checkInherits(t, h, a, b)
			}
		}
	})
}

// checkInherits checks that a class that is a subkind of another one has all that this has.
func checkInherits(t *testing.T, h *hier.Table, a, b string) {
	t.Helper()
	if _, ok := h.Get(a); !ok {
		return
	}
	for i, f := range h.Fields(b) {
		if h.Place(a, f.Name) != i || !reflect.DeepEqual(h.Fields(a)[i], f) {
			t.Fatalf("%s has no %s of %s at %d", a, f.Name, b, i)
		}
	}
	for _, name := range []string{"f", "g", "h"} {
		_, x, ok := h.Method(a, name)
		if _, y, has := h.Method(b, name); has && (!ok || sign(x) != sign(y)) {
			t.Fatalf("%s of %s is not as that of %s: %+v, %+v", name, a, b, x, y)
		}
	}
}
