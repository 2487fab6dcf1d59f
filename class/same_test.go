package class_test

import (
	"math/rand"
	"reflect"
	"slices"
	"strings"
	"testing"

	"squinch/api"
	"squinch/class"
)

func checkSame(t *testing.T, name string, a, b api.Class, want bool) {
	t.Helper()
	if class.Same(a, b) != want || class.Same(b, a) != want {
		t.Errorf("%s: Same = %v and %v, want %v", name, class.Same(a, b), class.Same(b, a), want)
	}
}

// P5.3
func TestSame(t *testing.T) {
	l := append(samples(), most(), api.Class{}, api.Class{Name: "\xff", Methods: make([]api.Method, 100)})
	for i, a := range l {
		for k, b := range l {
			checkSame(t, a.Name+" and "+b.Name, a, clone(b), i == k)
		}
	}
}

// P5.3: every string, number, flag and list counts, wherever it stands.
func TestClassesThatDifferInOnePlace(t *testing.T) {
	for _, base := range []api.Class{node(), half(), seen()} {
		c := clone(base)
		for n, v := range places(&c) {
			old := reflect.New(v.Type()).Elem()
			old.Set(v)
			for _, turn := range turns(v) {
				turn()
				if alike(c, base) {
					t.Fatalf("place %d was not changed", n)
				}
				checkSame(t, c.Name+" with another "+v.Type().String(), base, c, false)
				v.Set(old)
			}
			checkSame(t, c.Name, base, c, true)
		}
	}
}

// turns returns what makes something else of a place.
func turns(v reflect.Value) []func() {
	switch v.Kind() {
	case reflect.String:
		s := v.String()
		return []func(){func() { v.SetString(s + "x") }, func() { v.SetString(s + "\x00") }, func() { v.SetString(strings.ToUpper(s) + "Z") }}
	case reflect.Bool:
		return []func(){func() { v.SetBool(!v.Bool()) }}
	case reflect.Slice:
		n := v.Len()
		l := []func(){func() { v.Set(reflect.Append(v, reflect.New(v.Type().Elem()).Elem())) }}
		if n > 0 {
			l = append(l, func() { v.Set(v.Slice(0, n-1)) }, func() { v.Set(v.Slice(1, n)) }, func() { v.Set(reflect.Append(v, v.Index(n-1))) })
		}
		return l
	}
	n := v.Int()
	return []func(){func() { v.SetInt(n + 1) }, func() { v.SetInt(n - 1) }, func() { v.SetInt(n + 1<<32) }, func() { v.SetInt(^n) }}
}

// P5.3: the places are all that a class has.
func TestPlacesOfAClass(t *testing.T) {
	c := api.Class{Like: []string{""}, Fields: make([]api.Field, 1), Methods: []api.Method{{Params: []string{""}, Code: make([]api.Instr, 1), Catches: make([]api.Catch, 1)}}}
	if n := len(places(&c)); n != 8+1+3+7+1+3+4 {
		t.Errorf("%d places", n)
	}
}

// P5.3: the order of a list counts.
func TestClassesInAnotherOrder(t *testing.T) {
	checkSame(t, "like", node(), turned(node(), func(c *api.Class) { slices.Reverse(c.Like) }), false)
	checkSame(t, "fields", node(), turned(node(), func(c *api.Class) { slices.Reverse(c.Fields) }), false)
	checkSame(t, "methods", node(), turned(node(), func(c *api.Class) { slices.Reverse(c.Methods) }), false)
	checkSame(t, "params", node(), turned(node(), func(c *api.Class) { slices.Reverse(c.Methods[0].Params) }), false)
	checkSame(t, "code", node(), turned(node(), func(c *api.Class) { slices.Reverse(c.Methods[0].Code) }), false)
	checkSame(t, "catches", node(), turned(node(), func(c *api.Class) { slices.Reverse(c.Methods[0].Catches) }), false)
}

// P5.3: nil and empty are equal.
func TestEmptyLists(t *testing.T) {
	empty := api.Class{Name: "A", Super: "B", Like: []string{}, Fields: []api.Field{}, Methods: []api.Method{}}
	checkSame(t, "class", least(), empty, true)
	bare := api.Class{Methods: []api.Method{{}}}
	full := api.Class{Methods: []api.Method{{Params: []string{}, Code: []api.Instr{}, Catches: []api.Catch{}}}}
	checkSame(t, "method", bare, full, true)
	checkSame(t, "no class", api.Class{}, api.Class{Like: make([]string, 0, 5)}, true)
}

// P5.3: also of classes that are not valid.
func TestSameOfDisturbedClasses(t *testing.T) {
	dice := rand.New(rand.NewSource(2))
	for range 20000 {
		l := samples()
		base := clone(l[dice.Intn(len(l))])
		disturb(dice, &base)
		c := clone(base)
		checkSame(t, "copy", base, c, true)
		disturb(dice, &c)
		checkSame(t, "disturbed", base, c, alike(base, c))
	}
}

// P5.3
func TestSign(t *testing.T) {
	for _, x := range []struct {
		params []string
		result string
		want   string
	}{
		{nil, "", "()"}, {[]string{}, "", "()"}, {nil, "int", "()int"}, {[]string{"int"}, "", "(int)"}, {[]string{"int"}, "int", "(int)int"},
		{[]string{"int", "Node[]"}, "text", "(int,Node[])text"}, {[]string{"Node[]", "int"}, "text", "(Node[],int)text"},
		{[]string{"A", "A", "A[][][]"}, "A[]", "(A,A,A[][][])A[]"},
		{[]string{""}, "", "()"}, {[]string{"", ""}, "", "(,)"}, {[]string{"a,b", "é\xff "}, ")", "(a,b,é\xff ))"},
		{numbered("P", 3), "bool", "(P0,P1,P2)bool"},
		{slices.Repeat([]string{"int"}, 1000), "int", "(int" + strings.Repeat(",int", 999) + ")int"},
	} {
		for _, m := range []api.Method{{}, {Name: "go"}, half().Methods[2], node().Methods[0]} {
			m.Params, m.Result = x.params, x.result
			if s := class.Sign(m); s != x.want {
				t.Errorf("Sign(%.200q, %q) = %.200q, want %.200q", x.params, x.result, s, x.want)
			}
		}
	}
}
