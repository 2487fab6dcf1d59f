package class_test

import (
	"fmt"
	"math"
	"math/rand"
	"reflect"
	"slices"
	"strings"
	"testing"

	"squinch/api"
	"squinch/class"
)

// turned returns a changed copy of a class.
func turned(c api.Class, turn func(c *api.Class)) api.Class {
	c = clone(c)
	turn(&c)
	return c
}

// check also calls what has the errors of Check, or must not return such a class. It compares with the second definitions, so that these are tested too.
func check(t *testing.T, name string, c api.Class, want api.Errno) {
	t.Helper()
	if e := class.Check(c); e != want || wanted(c) != want {
		t.Errorf("%.80q: Check = %d, want %d, by the second definition %d", name, e, want, wanted(c))
	}
	b := encode(c)
	all := "\x01" + b
	if want != api.OK {
		b, all = "", ""
		checkNoBytes(t, encode(c))
		checkNoClasses(t, encodeAll([]api.Class{c}))
		checkNoClasses(t, encodeAll([]api.Class{least(), c, least()}))
	}
	if got, e := class.Put(c); string(got) != b || e != want {
		t.Errorf("%.80q: Put = %.200q, %d, want %.200q, %d", name, got, e, b, want)
	}
	if got, e := class.Pack([]api.Class{c}); string(got) != all || e != want {
		t.Errorf("%.80q: Pack = %.200q, %d, want %.200q, %d", name, got, e, all, want)
	}
}

// change is a change of a class, with its name.
type change struct {
	name string
	turn func(c *api.Class)
}

func checkChanges(t *testing.T, base api.Class, want api.Errno, l []change) {
	t.Helper()
	for _, x := range l {
		check(t, x.name, turned(base, x.turn), want)
	}
}

// P5.1
func TestValidClasses(t *testing.T) {
	for i, c := range samples() {
		check(t, fmt.Sprint("sample ", i), c, api.OK)
	}
	check(t, "most", most(), api.OK)
	long := strings.Repeat("a", 31)
	checkChanges(t, node(), api.OK, []change{
		{"super Object", func(c *api.Class) { c.Super = "Object" }},
		{"name Object", func(c *api.Class) { c.Name = "Object" }},
		{"name Int", func(c *api.Class) { c.Name = "Int" }},
		{"long names", func(c *api.Class) { c.Name, c.Super, c.Like[0] = "A"+long, "B"+long, "C"+long }},
		{"like and super", func(c *api.Class) { c.Like[0] = c.Super }},
		{"like Object", func(c *api.Class) { c.Like[0] = "Object" }},
		{"no like", func(c *api.Class) { c.Like = nil }},
		{"no fields", func(c *api.Class) { c.Fields = nil }},
		{"no methods", func(c *api.Class) { c.Methods = nil }},
		{"lists that are empty", func(c *api.Class) { c.Like, c.Fields, c.Methods = []string{}, []api.Field{}, []api.Method{} }},
		{"abstract without abstract methods", func(c *api.Class) { c.Abstract = true }},
		{"abstract without methods", func(c *api.Class) { c.Abstract, c.Methods = true, nil }},
		{"a field and a method of one name", func(c *api.Class) { c.Fields[0].Name = "go" }},
		{"names that are kinds", func(c *api.Class) { c.Fields[0].Name, c.Methods[0].Name = "int", "text" }},
		{"long field", func(c *api.Class) { c.Fields[0].Name, c.Fields[0].Kind = "a"+long, "A"+long+"[][][]" }},
		{"method of nothing", func(c *api.Class) { c.Methods[0] = c.Methods[1]; c.Methods[1].Name = "x" }},
		{"no catches", func(c *api.Class) { c.Methods[0].Catches = nil }},
		{"catches alike", func(c *api.Class) { c.Methods[0].Catches[1] = c.Methods[0].Catches[0] }},
		{"catch of one instruction", func(c *api.Class) { c.Methods[0].Catches[0] = api.Catch{From: 3, To: 4, At: 3, Class: "A"} }},
		{"jump to nowhere", func(c *api.Class) { c.Methods[0].Code[0] = api.Instr{Op: "jump", N: -1 << 63} }},
		{"params alike", func(c *api.Class) { c.Methods[0].Params = []string{"int", "int"} }},
	})
}

// P5.1: the names of the class.
func TestNamesOfClasses(t *testing.T) {
	for _, s := range []string{"", "node", "9Node", "int", "bool", "text", "Node[]", "Node.next", "No de", "Node ", " Node", "Node\n", "Nöde", "Node\xff", "É", strings.Repeat("A", 33), strings.Repeat("A", 5000)} {
		for _, base := range samples() {
			checkChanges(t, base, api.ErrClassForm, []change{
				{"name " + s, func(c *api.Class) { c.Name = s }},
				{"super " + s, func(c *api.Class) { c.Super = s }},
				{"like " + s, func(c *api.Class) { c.Like = []string{s} }},
				{"last like " + s, func(c *api.Class) { c.Like = append(c.Like, s) }},
			})
		}
	}
}

// P5.1: nothing is derived from itself, and nothing is there twice.
func TestDuplicates(t *testing.T) {
	checkChanges(t, half(), api.ErrClassForm, []change{
		{"super is name", func(c *api.Class) { c.Super = c.Name }},
		{"name is super", func(c *api.Class) { c.Name = c.Super }},
		{"first like is name", func(c *api.Class) { c.Like[0] = c.Name }},
		{"last like is name", func(c *api.Class) { c.Like[1] = c.Name }},
		{"like twice", func(c *api.Class) { c.Like[1] = c.Like[0] }},
		{"like twice, apart", func(c *api.Class) { c.Like = append(c.Like, c.Like[0]) }},
		{"like twice, far apart", func(c *api.Class) { c.Like = append(numbered("L", 31), "L0") }},
		{"field twice", func(c *api.Class) { c.Fields[1] = c.Fields[0] }},
		{"field name twice", func(c *api.Class) { c.Fields[1].Name = c.Fields[0].Name }},
		{"field twice, apart", func(c *api.Class) { c.Fields = append(c.Fields, c.Fields[0]) }},
		{"method twice", func(c *api.Class) { c.Methods[1] = c.Methods[0] }},
		{"method name twice", func(c *api.Class) { c.Methods[1].Name = c.Methods[0].Name }},
		{"method twice, apart", func(c *api.Class) { c.Methods = append(c.Methods, c.Methods[0]) }},
		{"abstract method name twice", func(c *api.Class) { c.Methods[2].Name = c.Methods[0].Name }},
	})
	checkChanges(t, seen(), api.ErrClassForm, []change{
		{"interface Object", func(c *api.Class) { c.Name = "Object" }},
		{"interface like itself", func(c *api.Class) { c.Like[0] = "Seen" }},
		{"method of an interface twice", func(c *api.Class) { c.Methods[1] = c.Methods[0] }},
	})
}

// P5.1
func TestInterfacesAndFlags(t *testing.T) {
	checkChanges(t, seen(), api.ErrClassForm, []change{
		{"not abstract", func(c *api.Class) { c.Abstract = false }},
		{"not abstract, without methods", func(c *api.Class) { c.Abstract, c.Methods = false, nil }},
		{"final", func(c *api.Class) { c.Final = true }},
		{"final, not abstract", func(c *api.Class) { c.Final, c.Abstract = true, false }},
		{"final, not abstract, without methods", func(c *api.Class) { c.Final, c.Abstract, c.Methods = true, false, nil }},
		{"another super", func(c *api.Class) { c.Super = "Told" }},
		{"no super", func(c *api.Class) { c.Super = "" }},
		{"a field", func(c *api.Class) { c.Fields = []api.Field{{Name: "n", Kind: "int"}} }},
		{"a transient field", func(c *api.Class) { c.Fields = []api.Field{{Name: "n", Kind: "int", Transient: true}} }},
		{"a method that is not abstract", func(c *api.Class) { c.Methods = append(c.Methods, node().Methods[1]) }},
		{"a first method that is not abstract", func(c *api.Class) { c.Methods[0] = node().Methods[1] }},
		{"no abstract method", func(c *api.Class) { c.Methods = node().Methods }},
	})
	checkChanges(t, seen(), api.OK, []change{
		{"without methods", func(c *api.Class) { c.Methods = nil }},
		{"without like", func(c *api.Class) { c.Like = nil }},
		{"no interface", func(c *api.Class) { c.Interface = false }},
		{"no interface, another super", func(c *api.Class) { c.Interface, c.Super = false, "Told" }},
	})
	checkChanges(t, node(), api.ErrClassForm, []change{
		{"abstract and final", func(c *api.Class) { c.Abstract, c.Final = true, true }},
		{"interface", func(c *api.Class) { c.Interface = true }},
		{"abstract method", func(c *api.Class) { c.Methods[1] = half().Methods[2] }},
		{"abstract method in a final class", func(c *api.Class) { c.Final, c.Methods[1] = true, half().Methods[2] }},
	})
	checkChanges(t, half(), api.ErrClassForm, []change{
		{"abstract method, but not abstract", func(c *api.Class) { c.Abstract = false }},
		{"abstract method, but final", func(c *api.Class) { c.Abstract, c.Final = false, true }},
	})
	check(t, "abstract and final, with nothing", api.Class{Name: "A", Super: "B", Abstract: true, Final: true}, api.ErrClassForm)
}

// P5.1
func TestMembers(t *testing.T) {
	for _, s := range []string{"", "Next", "N", "9", "_n", "ne xt", "n.n", "n[]", "é", "n\xff", "n\n", strings.Repeat("a", 33)} {
		checkChanges(t, half(), api.ErrClassForm, []change{
			{"field " + s, func(c *api.Class) { c.Fields[0].Name = s }},
			{"last field " + s, func(c *api.Class) { c.Fields[1].Name = s }},
			{"method " + s, func(c *api.Class) { c.Methods[0].Name = s }},
			{"abstract method " + s, func(c *api.Class) { c.Methods[2].Name = s }},
		})
	}
	for _, s := range []string{"x", "void", "null", "Int ", "[]", "node", "int[", "[]int", "int[][][][]", "Node[][][][]", "Node.next", "int[] []", strings.Repeat("A", 33), strings.Repeat("[]", 5000), "\xff"} {
		checkChanges(t, half(), api.ErrClassForm, []change{
			{"field of " + s, func(c *api.Class) { c.Fields[0].Kind = s }},
			{"last field of " + s, func(c *api.Class) { c.Fields[1].Kind = s }},
			{"param " + s, func(c *api.Class) { c.Methods[0].Params[0] = s }},
			{"last param " + s, func(c *api.Class) { c.Methods[0].Params[1] = s }},
			{"result " + s, func(c *api.Class) { c.Methods[0].Result = s }},
			{"param of an abstract method " + s, func(c *api.Class) { c.Methods[2].Params[0] = s }},
			{"result of an abstract method " + s, func(c *api.Class) { c.Methods[2].Result = s }},
		})
	}
	checkChanges(t, half(), api.ErrClassForm, []change{
		{"field of no kind", func(c *api.Class) { c.Fields[0].Kind = "" }},
		{"param of no kind", func(c *api.Class) { c.Methods[0].Params[1] = "" }},
	})
	for _, s := range []string{"", "int", "bool", "text", "A", "int[]", "A[][][]"} {
		checkChanges(t, half(), api.OK, []change{
			{"result " + s, func(c *api.Class) { c.Methods[0].Result = s }},
			{"result of an abstract method " + s, func(c *api.Class) { c.Methods[2].Result = s }},
		})
	}
}

// P5.1: what an abstract method does not have, and any other one has.
func TestBodies(t *testing.T) {
	checkChanges(t, half(), api.ErrClassForm, []change{
		{"abstract with locals", func(c *api.Class) { c.Methods[2].Locals = 2 }},
		{"abstract with a local", func(c *api.Class) { c.Methods[2].Locals = 1 }},
		{"abstract with negative locals", func(c *api.Class) { c.Methods[2].Locals = -1 }},
		{"abstract with code", func(c *api.Class) { c.Methods[2].Code = []api.Instr{{Op: "return"}} }},
		{"abstract with catches", func(c *api.Class) { c.Methods[2].Catches = []api.Catch{{}} }},
		{"abstract with a body", func(c *api.Class) { c.Methods[0].Abstract = true }},
		{"as many locals as params", func(c *api.Class) { c.Methods[0].Locals = 2 }},
		{"fewer locals than params", func(c *api.Class) { c.Methods[0].Locals = 1 }},
		{"no locals", func(c *api.Class) { c.Methods[1].Locals = 0 }},
		{"negative locals", func(c *api.Class) { c.Methods[1].Locals = -1 }},
		{"least locals", func(c *api.Class) { c.Methods[1].Locals = math.MinInt }},
		{"no code", func(c *api.Class) { c.Methods[1].Code = nil }},
		{"no code, but catches", func(c *api.Class) { c.Methods[0].Code = nil }},
		{"neither abstract nor a body", func(c *api.Class) { c.Methods[2].Abstract = false }},
		{"no operator", func(c *api.Class) { c.Methods[0].Code[0] = api.Instr{Op: "nop"} }},
		{"empty operator", func(c *api.Class) { c.Methods[0].Code[3] = api.Instr{} }},
		{"an operand too much", func(c *api.Class) { c.Methods[0].Code[0].S = "x" }},
		{"a number too much", func(c *api.Class) { c.Methods[0].Code[3].N = 1 }},
		{"a text that may not be", func(c *api.Class) { c.Methods[0].Code[2].S = "go" }},
	})
	checkChanges(t, half(), api.OK, []change{
		{"one local more than params", func(c *api.Class) { c.Methods[0].Locals = 3 }},
		{"64 locals", func(c *api.Class) { c.Methods[0].Locals = 64 }},
		{"1 instruction", func(c *api.Class) { c.Methods[1].Code = instrs(1) }},
		{"200 instructions", func(c *api.Class) { c.Methods[1].Code = instrs(200) }},
		{"32 params and 33 locals", func(c *api.Class) { c.Methods[0].Params, c.Methods[0].Locals = numbered("P", 32), 33 }},
		{"32 params of an abstract method", func(c *api.Class) { c.Methods[2].Params = numbered("P", 32) }},
	})
	check(t, "32 params and 32 locals", turned(half(), func(c *api.Class) { c.Methods[0].Params, c.Methods[0].Locals = numbered("P", 32), 32 }), api.ErrClassForm)
	check(t, "200 instructions, the last of them wrong", turned(half(), func(c *api.Class) { c.Methods[1].Code = append(instrs(199), api.Instr{Op: "pop", S: "x"}) }), api.ErrClassForm)
}

func instrs(n int) []api.Instr { return slices.Repeat([]api.Instr{{Op: "return"}}, n) }

// P5.1: all places of a catch, around a method of four instructions.
func TestCatches(t *testing.T) {
	numbers := []int{math.MinInt, math.MinInt + 4, -1 << 32, -4, -1, 0, 1, 2, 3, 4, 5, 64, 1 << 32, 1<<32 + 1, math.MaxInt}
	for _, from := range numbers {
		for _, to := range numbers {
			for _, at := range numbers {
				want := api.ErrClassForm
				if 0 <= from && from < to && to <= 4 && 0 <= at && at <= 3 {
					want = api.OK
				}
				x := api.Catch{From: from, To: to, At: at, Class: "Fault"}
				check(t, fmt.Sprint("first catch ", x), turned(node(), func(c *api.Class) { c.Methods[0].Catches[0] = x }), want)
				check(t, fmt.Sprint("last catch ", x), turned(node(), func(c *api.Class) { c.Methods[0].Catches[1] = x }), want)
			}
		}
	}
	for _, s := range []string{"", "int", "fault", "Fault[]", "Fault.what", "Fault ", "\xff", strings.Repeat("A", 33)} {
		check(t, "catch of "+s, turned(node(), func(c *api.Class) { c.Methods[0].Catches[1].Class = s }), api.ErrClassForm)
	}
}

// tooMany returns changes that give a class with a method, beside all it has, too many of something.
func tooMany() []change {
	last := func(c *api.Class) *api.Method { return &c.Methods[len(c.Methods)-1] }
	return []change{
		{"33 like", func(c *api.Class) { c.Like = append(c.Like, numbered("L", 33-len(c.Like))...) }},
		{"33 fields", func(c *api.Class) {
			for _, s := range numbered("f", 33-len(c.Fields)) {
				c.Fields = append(c.Fields, api.Field{Name: s, Kind: "int"})
			}
		}},
		{"33 methods", func(c *api.Class) {
			for _, s := range numbered("m", 33-len(c.Methods)) {
				m := *last(c)
				m.Name = s
				c.Methods = append(c.Methods, m)
			}
		}},
		{"33 params", func(c *api.Class) { last(c).Params = append(last(c).Params, numbered("P", 33-len(last(c).Params))...) }},
		{"33 params of the first method", func(c *api.Class) { c.Methods[0].Params = numbered("P", 33) }},
		{"33 catches", func(c *api.Class) {
			last(c).Catches = slices.Repeat([]api.Catch{{From: 0, To: 1, At: 0, Class: "A"}}, 33)
		}},
		{"201 instructions", func(c *api.Class) { last(c).Code = instrs(201) }},
		{"65 locals", func(c *api.Class) { last(c).Locals = 65 }},
		{"65 locals of the first method", func(c *api.Class) { c.Methods[0].Locals = 65 }},
		{"very many locals", func(c *api.Class) { last(c).Locals = math.MaxInt }},
		{"2^32 + 4 locals", func(c *api.Class) { last(c).Locals = 1<<32 + 4 }},
		{"300 like", func(c *api.Class) { c.Like = numbered("L", 300) }},
		{"1000 nameless fields", func(c *api.Class) { c.Fields = make([]api.Field, 1000) }},
		{"5000 nameless methods", func(c *api.Class) { c.Methods = make([]api.Method, 5000) }},
		{"1000 instructions that do not exist", func(c *api.Class) { last(c).Code = make([]api.Instr, 1000) }},
	}
}

// P5.1: at each limit, and one beyond it.
func TestLimits(t *testing.T) {
	for _, c := range []api.Class{node(), half(), final(), turned(node(), func(c *api.Class) { c.Methods[1].Locals = 64 })} {
		checkChanges(t, c, api.ErrClassMany, tooMany())
	}
	checkChanges(t, node(), api.OK, []change{
		{"32 like", func(c *api.Class) { c.Like = numbered("L", 32) }},
		{"32 fields", func(c *api.Class) { c.Fields = most().Fields }},
		{"32 methods", func(c *api.Class) { c.Methods = most().Methods }},
		{"32 params", func(c *api.Class) { c.Methods[0].Params, c.Methods[0].Locals = numbered("P", 32), 64 }},
		{"32 catches", func(c *api.Class) {
			c.Methods[0].Catches = slices.Repeat([]api.Catch{{From: 0, To: 4, At: 0, Class: "A"}}, 32)
		}},
	})
	checkChanges(t, most(), api.ErrClassMany, []change{
		{"one more like", func(c *api.Class) { c.Like = numbered("L", 33) }},
		{"one more field", func(c *api.Class) { c.Fields = append(c.Fields, api.Field{Name: "x", Kind: "int"}) }},
		{"one more method", func(c *api.Class) { c.Methods = append(c.Methods, node().Methods[1]) }},
		{"one more param", func(c *api.Class) { c.Methods[31].Params = numbered("P", 33) }},
		{"one more catch", func(c *api.Class) { c.Methods[31].Catches = append(c.Methods[31].Catches, c.Methods[0].Catches[0]) }},
		{"one more instruction", func(c *api.Class) { c.Methods[31].Code = instrs(201) }},
		{"one more local", func(c *api.Class) { c.Methods[31].Locals = 65 }},
	})
}

// P5.1: the number is named ahead of all else that is wrong.
func TestTooManyAndNotValid(t *testing.T) {
	for _, wrong := range []change{
		{"name", func(c *api.Class) { c.Name = "node" }},
		{"super", func(c *api.Class) { c.Super = "" }},
		{"own super", func(c *api.Class) { c.Super = c.Name }},
		{"like", func(c *api.Class) { c.Like = []string{"", ""} }},
		{"flags", func(c *api.Class) { c.Interface, c.Final = true, true }},
		{"abstract and final", func(c *api.Class) { c.Abstract, c.Final = true, true }},
		{"field", func(c *api.Class) { c.Fields = make([]api.Field, 2) }},
		{"method", func(c *api.Class) { c.Methods = append(make([]api.Method, 2), c.Methods...) }},
		{"last method", func(c *api.Class) { c.Methods = append(c.Methods, api.Method{Locals: -1}) }},
		{"abstract method with a body", func(c *api.Class) { c.Methods[0].Abstract = true }},
		{"abstract methods with bodies", func(c *api.Class) { c.Methods[0].Abstract, c.Methods[1].Abstract = true, true }},
		{"instruction", func(c *api.Class) { c.Methods[0].Code[0].Op = "nop" }},
		{"catch", func(c *api.Class) { c.Methods[0].Catches[0].From = -1 }},
		{"negative locals", func(c *api.Class) { c.Methods[0].Locals = -1 }},
	} {
		check(t, wrong.name, turned(node(), wrong.turn), api.ErrClassForm)
		for _, many := range tooMany() {
			c := turned(turned(node(), wrong.turn), many.turn)
			check(t, many.name+" and another "+wrong.name, c, api.ErrClassMany)
		}
	}
}

// P5.1: an abstract method too can have too much of what it has not at all.
func TestTooManyInAbstractMethods(t *testing.T) {
	checkChanges(t, seen(), api.ErrClassMany, tooMany())
	checkChanges(t, seen(), api.ErrClassForm, []change{
		{"200 instructions", func(c *api.Class) { c.Methods[0].Code = instrs(200) }},
		{"64 locals", func(c *api.Class) { c.Methods[0].Locals = 64 }},
		{"32 catches", func(c *api.Class) { c.Methods[0].Catches = make([]api.Catch, 32) }},
	})
}

// P1, P5.1
func TestNoClass(t *testing.T) {
	check(t, "zero", api.Class{}, api.ErrClassForm)
	for i, c := range samples() {
		for _, v := range places(&c) {
			old := reflect.New(v.Type()).Elem()
			old.Set(v)
			v.SetZero()
			if e, want := class.Check(c), wanted(c); e != want {
				t.Errorf("sample %d without a part: Check(%+v) = %d, want %d", i, c, e, want)
			}
			v.Set(old)
		}
	}
}

// disturb changes one place of a class at random, to something that tells.
func disturb(dice *rand.Rand, c *api.Class) {
	l := places(c)
	v := l[dice.Intn(len(l))]
	switch v.Kind() {
	case reflect.String:
		words := []string{"", "Node", "Object", "Seen", "Base", "Fault", "int", "next", "n", "go", "see", "Node[]", "int[][][]", "int[][][][]", "Node.go", "add", "return", "load", "new", strings.Repeat("A", 32), strings.Repeat("a", 32), strings.Repeat("A", 33), "é", "a\xff"}
		v.SetString(words[dice.Intn(len(words))])
	case reflect.Bool:
		v.SetBool(!v.Bool())
	case reflect.Slice:
		disturbList(dice, v)
	default:
		numbers := []int64{-1, 0, 0, 1, 1, 2, 2, 3, 4, 5, 63, 64, 65, 199, 200, 201, 1 << 32, math.MaxInt64, math.MinInt64}
		v.SetInt(numbers[dice.Intn(len(numbers))])
	}
}

func disturbList(dice *rand.Rand, v reflect.Value) {
	n := v.Len()
	if n == 0 {
		v.Set(reflect.MakeSlice(v.Type(), dice.Intn(2), 1))
		return
	}
	one := v.Index(dice.Intn(n))
	switch dice.Intn(4) {
	case 0:
		v.Set(v.Slice(0, n-1))
	case 1:
		v.Set(reflect.Append(v, one))
	case 2:
		one.SetZero()
	default:
		for range dice.Intn(260) {
			v.Set(reflect.Append(v, one))
		}
	}
}

// P1, P5.1, P5.2: classes with several changes, against the second definitions.
func TestDisturbedClasses(t *testing.T) {
	dice := rand.New(rand.NewSource(1))
	seen := map[api.Errno]int{}
	for range 20000 {
		l := samples()
		c := clone(l[dice.Intn(len(l))])
		for range 1 + dice.Intn(4) {
			disturb(dice, &c)
		}
		want := wanted(c)
		seen[want]++
		b, e := class.Put(c)
		if class.Check(c) != want || e != want || want == api.OK && string(b) != encode(c) || want != api.OK && len(b) != 0 {
			t.Fatalf("%+v: Check = %d, Put = %q, %d, want %d", c, class.Check(c), b, e, want)
		}
		if want != api.OK {
			continue
		}
		if d, e := class.Get(b); !alike(c, d) || e != api.OK {
			t.Fatalf("Get(%q) = %+v, %d, want %+v", b, d, e, c)
		}
	}
	for _, e := range []api.Errno{api.OK, api.ErrClassForm, api.ErrClassMany} {
		if seen[e] < 500 {
			t.Errorf("only %d classes of %d", seen[e], e)
		}
	}
}
