package class_test

import (
	"encoding/binary"
	"reflect"
	"regexp"
	"slices"
	"strconv"
	"strings"
	"unicode/utf8"

	"squinch/api"
	"squinch/code"
)

// This file holds second definitions of what the chapter defines, and the classes that the tests begin with.

// node is a class that has everything that a class can have.
func node() api.Class {
	return api.Class{
		Name: "Node", Super: "Base", Like: []string{"Seen", "Told"},
		Fields: []api.Field{{Name: "next", Kind: "Node"}, {Name: "n", Kind: "int[][]", Transient: true}},
		Methods: []api.Method{
			{
				Name: "go", Params: []string{"int", "Node[]"}, Result: "text", Locals: 4,
				Code:    []api.Instr{{Op: "load", N: 1}, {Op: "word", S: "é"}, {Op: "call", S: "Node.go"}, {Op: "return"}},
				Catches: []api.Catch{{From: 0, To: 3, At: 3, Class: "Fault"}, {From: 1, To: 4, At: 0, Class: "ZeroFault"}},
			},
			{Name: "stop", Locals: 1, Code: []api.Instr{{Op: "return"}}},
		},
	}
}

// half is an abstract class, with a method that is abstract and one that is not.
func half() api.Class {
	c := node()
	c.Abstract = true
	c.Methods = append(c.Methods, api.Method{Name: "see", Params: []string{"bool"}, Result: "Node[]", Abstract: true})
	return c
}

// seen is an interface.
func seen() api.Class {
	return api.Class{
		Name: "Seen", Super: "Object", Like: []string{"Told"}, Interface: true, Abstract: true,
		Methods: []api.Method{
			{Name: "see", Params: []string{"text"}, Abstract: true},
			{Name: "look", Result: "int", Abstract: true},
		},
	}
}

// least has nothing that a class need not have.
func least() api.Class { return api.Class{Name: "A", Super: "B"} }

// most has as many of everything as there may be.
func most() api.Class {
	c := api.Class{Name: "Most", Super: "Object", Final: true, Like: numbered("L", 32)}
	for i, s := range numbered("f", 32) {
		c.Fields = append(c.Fields, api.Field{Name: s, Kind: "int[][][]", Transient: i%2 == 0})
	}
	for _, s := range numbered("m", 32) {
		c.Methods = append(c.Methods, api.Method{
			Name: s, Params: numbered("P", 32), Result: "bool", Locals: 64,
			Code:    slices.Repeat([]api.Instr{{Op: "int", N: -1 << 63}}, 200),
			Catches: slices.Repeat([]api.Catch{{From: 199, To: 200, At: 199, Class: "Fault"}}, 32),
		})
	}
	return c
}

func samples() []api.Class { return []api.Class{node(), half(), seen(), least(), final()} }

func final() api.Class {
	c := node()
	c.Final = true
	return c
}

func numbered(s string, n int) []string {
	var l []string
	for i := range n {
		l = append(l, s+strconv.Itoa(i))
	}
	return l
}

var (
	classForm  = regexp.MustCompile(`^[A-Z][A-Za-z0-9]{0,31}$`)
	memberForm = regexp.MustCompile(`^[a-z][A-Za-z0-9]{0,31}$`)
	kindForm   = regexp.MustCompile(`^(?:int|bool|text|[A-Z][A-Za-z0-9]{0,31})(?:\[\]){0,3}$`)
)

// wanted is a second definition of Check.
func wanted(c api.Class) api.Errno {
	many := len(c.Like) >= 33 || len(c.Fields) >= 33 || len(c.Methods) >= 33
	for _, m := range c.Methods {
		many = many || len(m.Params) >= 33 || len(m.Catches) >= 33 || len(m.Code) >= 201 || m.Locals >= 65
	}
	if many {
		return api.ErrClassMany
	}
	wrong := !classForm.MatchString(c.Name) || !classForm.MatchString(c.Super) || c.Super == c.Name
	names := map[string]int{}
	count := func(s string) {
		names[s]++
		wrong = wrong || names[s] > 1
	}
	for _, s := range c.Like {
		count("like " + s)
		wrong = wrong || !classForm.MatchString(s) || s == c.Name
	}
	for _, f := range c.Fields {
		count("field " + f.Name)
		wrong = wrong || !memberForm.MatchString(f.Name) || !kindForm.MatchString(f.Kind) || c.Interface
	}
	for _, m := range c.Methods {
		count("method " + m.Name)
		wrong = wrong || wrongMethod(m) || m.Abstract && !c.Abstract || c.Interface && !m.Abstract
	}
	if wrong || c.Abstract && c.Final || c.Interface && (!c.Abstract || c.Super != "Object") {
		return api.ErrClassForm
	}
	return api.OK
}

func wrongMethod(m api.Method) bool {
	wrong := !memberForm.MatchString(m.Name) || m.Result != "" && !kindForm.MatchString(m.Result)
	for _, s := range m.Params {
		wrong = wrong || !kindForm.MatchString(s)
	}
	if m.Abstract {
		return wrong || m.Locals != 0 || len(m.Code)+len(m.Catches) != 0
	}
	wrong = wrong || m.Locals <= len(m.Params) || len(m.Code) == 0
	for _, i := range m.Code {
		wrong = wrong || code.Check(i) != api.OK
	}
	for _, c := range m.Catches {
		wrong = wrong || c.From < 0 || c.To <= c.From || len(m.Code) < c.To || c.At < 0 || len(m.Code) <= c.At || !classForm.MatchString(c.Class)
	}
	return wrong
}

// encode is a second definition of the encoding. It also encodes what is not valid, with all that it has.
func encode(c api.Class) string {
	b := text(c.Name) + text(c.Super) + list(c.Like, text) + flag(c.Interface) + flag(c.Abstract) + flag(c.Final)
	b += list(c.Fields, func(f api.Field) string { return text(f.Name) + text(f.Kind) + flag(f.Transient) })
	return b + list(c.Methods, encodeMethod)
}

func encodeMethod(m api.Method) string {
	b := text(m.Name) + list(m.Params, text) + text(m.Result) + flag(m.Abstract)
	if m.Abstract && m.Locals == 0 && len(m.Code)+len(m.Catches) == 0 {
		return b
	}
	b += num(uint64(m.Locals)) + list(m.Code, encodeInstr)
	return b + list(m.Catches, func(c api.Catch) string {
		return num(uint64(c.From)) + num(uint64(c.To)) + num(uint64(c.At)) + text(c.Class)
	})
}

func encodeInstr(i api.Instr) string {
	n := slices.Index(code.Ops(), i.Op)
	if n < 0 {
		n = 42
	}
	b := num(uint64(n))
	number, word, _ := code.Takes(i.Op)
	if number || i.N != 0 {
		b += string(binary.AppendVarint(nil, i.N))
	}
	if word || i.S != "" {
		b += text(i.S)
	}
	return b
}

func encodeAll(l []api.Class) string { return list(l, encode) }

func num(v uint64) string { return string(binary.AppendUvarint(nil, v)) }

func text(s string) string { return num(uint64(len(s))) + s }

func flag(f bool) string {
	if f {
		return "\x01"
	}
	return "\x00"
}

func list[T any](l []T, encode func(x T) string) string {
	var b strings.Builder
	b.WriteString(num(uint64(len(l))))
	for _, x := range l {
		b.WriteString(encode(x))
	}
	return b.String()
}

// scan is a second decoder of the encoding, of which bad tells that it has found none.
type scan struct {
	b   string
	bad bool
}

func (s *scan) num() uint64 {
	v, n := binary.Uvarint([]byte(s.b[:min(len(s.b), 10)]))
	if s.bad || n <= 0 || num(v) != s.b[:n] {
		s.bad = true
		return 0
	}
	s.b = s.b[n:]
	return v
}

func (s *scan) text() string {
	n := s.num()
	if s.bad || n > 4096 || n > uint64(len(s.b)) || !utf8.ValidString(s.b[:n]) {
		s.bad = true
		return ""
	}
	x := s.b[:n]
	s.b = s.b[n:]
	return x
}

func (s *scan) flag() bool {
	v := s.num()
	s.bad = s.bad || v > 1
	return v == 1
}

func scanList[T any](s *scan, most uint64, next func() T) []T {
	n := s.num()
	s.bad = s.bad || n > most
	var l []T
	for i := uint64(0); i < n && !s.bad; i++ {
		l = append(l, next())
	}
	return l
}

func (s *scan) class() api.Class {
	var c api.Class
	c.Name = s.text()
	c.Super = s.text()
	c.Like = scanList(s, 32, s.text)
	c.Interface = s.flag()
	c.Abstract = s.flag()
	c.Final = s.flag()
	c.Fields = scanList(s, 32, func() api.Field {
		var f api.Field
		f.Name = s.text()
		f.Kind = s.text()
		f.Transient = s.flag()
		return f
	})
	c.Methods = scanList(s, 32, s.method)
	return c
}

func (s *scan) method() api.Method {
	var m api.Method
	m.Name = s.text()
	m.Params = scanList(s, 32, s.text)
	m.Result = s.text()
	m.Abstract = s.flag()
	if m.Abstract {
		return m
	}
	m.Locals = s.small()
	m.Code = scanList(s, 200, s.instr)
	m.Catches = scanList(s, 32, func() api.Catch {
		var c api.Catch
		c.From = s.small()
		c.To = s.small()
		c.At = s.small()
		c.Class = s.text()
		return c
	})
	return m
}

func (s *scan) small() int {
	v := s.num()
	s.bad = s.bad || v > 200
	return int(v)
}

func (s *scan) instr() api.Instr {
	n := s.num()
	if s.bad || n > 41 {
		s.bad = true
		return api.Instr{}
	}
	i := api.Instr{Op: code.Ops()[n]}
	number, word, _ := code.Takes(i.Op)
	if number {
		v := s.num()
		i.N = int64(v >> 1)
		if v%2 == 1 {
			i.N = -1 - i.N
		}
	}
	if word {
		i.S = s.text()
	}
	return i
}

// decode is a second definition of Get.
func decode(b string) (api.Class, bool) {
	s := &scan{b: b}
	c := s.class()
	return c, !s.bad && s.b == "" && wanted(c) == api.OK
}

// decodeAll is a second definition of Unpack.
func decodeAll(b string) ([]api.Class, bool) {
	s := &scan{b: b}
	l := scanList(s, 64, s.class)
	return l, !s.bad && s.b == "" && !slices.ContainsFunc(l, func(c api.Class) bool { return wanted(c) != api.OK })
}

// clone copies a class with all of its lists, where it also makes empty lists nil, so that reflect.DeepEqual may compare.
func clone(c api.Class) api.Class {
	c.Like = append([]string(nil), c.Like...)
	c.Fields = append([]api.Field(nil), c.Fields...)
	c.Methods = append([]api.Method(nil), c.Methods...)
	for i := range c.Methods {
		m := &c.Methods[i]
		m.Params = append([]string(nil), m.Params...)
		m.Code = append([]api.Instr(nil), m.Code...)
		m.Catches = append([]api.Catch(nil), m.Catches...)
	}
	return c
}

// alike compares classes without Same.
func alike(a, b api.Class) bool { return reflect.DeepEqual(clone(a), clone(b)) }

// places returns everything in a class that can be changed: strings, numbers, flags and lists.
func places(c *api.Class) []reflect.Value {
	var l []reflect.Value
	var walk func(v reflect.Value)
	walk = func(v reflect.Value) {
		switch v.Kind() {
		case reflect.Struct:
			for i := range v.NumField() {
				walk(v.Field(i))
			}
		case reflect.Slice:
			l = append(l, v)
			for i := range v.Len() {
				walk(v.Index(i))
			}
		default:
			l = append(l, v)
		}
	}
	walk(reflect.ValueOf(c).Elem())
	return l
}
