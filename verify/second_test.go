package verify_test

import (
	"fmt"
	"math/rand"
	"slices"
	"strings"
	"testing"

	"squinch/api"
	"squinch/code"
	"squinch/hier"
	"squinch/step"
	"squinch/verify"
)

// wanted returns what Method should return, as chapter 8 says it, with all locals. It remembers the shape with which each instruction was last processed, and looks from the first instruction on for one that has another.
func wanted(h *hier.Table, class string, m api.Method) ([]api.Shape, int, api.Errno) {
	if !named(h, class, m) {
		return nil, 0, api.ErrVerifyName
	}
	if len(m.Code) == 0 {
		return nil, 0, 0
	}
	if m.Locals < 1+len(m.Params) {
		return nil, 0, api.ErrVerifyLocal
	}
	shapes, last := make([]api.Shape, len(m.Code)), make([]api.Shape, len(m.Code))
	shapes[0] = step.Begin(class, m)
	for at := 0; at < len(m.Code); at++ {
		if sameShapes(shapes[at:at+1], last[at:at+1]) {
			continue
		}
		last[at] = shapes[at]
		if e := process(h, m, shapes, at); e != 0 {
			return nil, at, e
		}
		at = -1
	}
	return shapes, 0, 0
}

func named(h *hier.Table, class string, m api.Method) bool {
	kinds := slices.Clone(m.Params)
	if m.Result != "" {
		kinds = append(kinds, m.Result)
	}
	for _, s := range kinds {
		if s == "null" || !h.Kind(s) {
			return false
		}
	}
	for _, c := range m.Catches {
		if !slices.Contains(h.Names(), c.Class) || !h.Sub(c.Class, "Fault") {
			return false
		}
	}
	return slices.Contains(h.Names(), class)
}

// process does the four steps of chapter 8.
func process(h *hier.Table, m api.Method, shapes []api.Shape, at int) (e api.Errno) {
	next, ok := step.Next(m.Code, at)
	if op := m.Code[at].Op; !ok && (op == "jump" || op == "branch") {
		return api.ErrVerifyJump
	} else if !ok {
		return api.ErrVerifyFall
	}
	for _, c := range m.Catches {
		if at < c.From || at >= c.To {
			continue
		}
		if c.At < 0 || c.At >= len(shapes) {
			return api.ErrVerifyJump
		}
		if shapes[c.At], e = step.Merge(h, shapes[c.At], api.Shape{Seen: true, Stack: []string{c.Class}, Locals: shapes[at].Locals}); e != 0 {
			return e
		}
	}
	after, e := step.Do(h, m, m.Code[at], shapes[at])
	for _, to := range next {
		if e != 0 {
			break
		}
		shapes[to], e = step.Merge(h, shapes[to], after)
	}
	return e
}

// dice make methods of which many are accepted.
type dice struct{ *rand.Rand }

func newDice(seed int64) dice { return dice{rand.New(rand.NewSource(seed))} }

func (d dice) pick(l ...string) string { return l[d.Intn(len(l))] }

// starts are ways to set a local of a sort, which the blocks name by $a (an A), $b (a B), $i, $l (a list), $t (a truth), $w (a word), $f (a fault) and $x (anything). Behind jump and branch, @ stands for a block.
func starts(sort string) []string {
	return map[string][]string{
		"$a": {"null", "new A", "new B", "new C", "load 0"}, "$b": {"null", "new B", "new D"}, "$i": {"int 5"}, "$l": {"int 2; array A", "null; cast A[]"},
		"$t": {"true", "false"}, "$w": {"word no"}, "$f": {"new Bad", "new Worse", "new ZeroFault", "null"}, "$x": {"null", "int 1", "new Object", "true", "int 1; array int[]"},
	}[sort]
}

func sorts() []string { return strings.Fields("$a $b $i $l $t $w $f $x") }

// blocks begin and end with nothing on the stack.
func blocks() []string {
	return []string{
		"load $a; store $a", "load $b; store $a", "load $x; store $x", "load $a; store $x", "new C; store $a", "int 1; store $x", "true; store $x", "null; store $b",
		"load $a; get A.next; store $a", "load $b; get B.y; store $b", "load $a; load $b; put A.next", "load $a; load $x; put A.any", "load $a; is B; branch @", "load $a; cast B; store $b", "load $x; cast A; store $a",
		"load $l; int 0; at; store $a", "load $l; load $i; load $b; set", "load $l; size; store $i", "load $a; get A.list; store $l", "load $i; array A; store $l",
		"load $a; load $i; call A.up; store $a", "load $b; load $w; call I.see; store $a", "load $a; load $b; load $t; call A.take", "load $b; load $i; call D.up; pop",
		"load $i; load $i; add; dup; mul; store $i", "load $i; neg; out", "load $i; int 3; less; branch @", "load $t; not; branch @", "load $t; branch @", "load $a; load $b; equal; branch @", "load $w; load $w; join; store $w",
		"load $f; throw", "load $f; get Fault.what; store $w", "jump @", "jump @", "load $i; load $i; swap; pop; pop", "load $t; load $a; pop; dup; pop; branch @",
	}
}

// handlers begin with what is caught on the stack.
func handlers() []string {
	return []string{"pop; jump @", "store $f; jump @", "store $x; jump @", "store $a; jump @", "throw", "get Fault.what; store $w; jump @", "dup; pop; store $f; load $f; throw", "get Bad.why; store $a; jump @"}
}

// fill replaces the sorts in a text by the locals for them, and sometimes by another local.
func (d dice) fill(text string, locals map[string]int, most int) string {
	words := strings.SplitAfter(text, " ")
	for i, word := range words {
		if n, ok := locals[strings.Trim(word, "; ")]; ok {
			if d.Intn(40) == 0 {
				n = d.Intn(most + 1)
			}
			words[i] = fmt.Sprint(n) + strings.TrimLeft(word, "$abiltwfx")
		}
	}
	return strings.ReplaceAll(strings.Join(words, ""), "@", "-1")
}

// method returns a method of the classes of zoo, in which one thing may be wrong.
func (d dice) method() api.Method {
	m := api.Method{Name: "m", Result: d.pick("", "", "A", "int", "A[]"), Locals: 10 + d.Intn(4)}
	for range d.Intn(3) {
		m.Params = append(m.Params, d.pick("int", "A", "I", "B[]", "text"))
	}
	locals := map[string]int{}
	places := d.Perm(m.Locals - 1)
	var texts []string
	for i, sort := range sorts() {
		locals[sort] = places[i] + 1
		if d.Intn(12) > 0 {
			texts = append(texts, d.pick(starts(sort)...)+"; store "+sort)
		}
	}
	for range d.Intn(7) {
		texts = append(texts, d.pick(blocks()...))
	}
	texts = append(texts, map[string]string{"": "return", "A": "load $a; return", "int": "load $i; return", "A[]": "load $l; return"}[m.Result])
	caughtFrom := len(texts)
	for range d.Intn(3) {
		texts = append(texts, d.pick(handlers()...))
	}
	d.lay(&m, texts, caughtFrom, locals)
	if d.Intn(3) == 0 {
		d.spoil(&m)
	}
	return m
}

// lay lays out the instructions of a method, of which the texts from an index on are handlers.
func (d dice) lay(m *api.Method, texts []string, caughtFrom int, locals map[string]int) {
	var at []int
	for _, text := range texts {
		at = append(at, len(m.Code))
		for line := range strings.SplitSeq(d.fill(text, locals, m.Locals), "; ") {
			one, _ := code.Read(line + "\n")
			m.Code = append(m.Code, one...)
		}
	}
	at = append(at, len(m.Code))
	for i := range m.Code {
		if op := m.Code[i].Op; op == "jump" || op == "branch" {
			m.Code[i].N = int64(at[d.Intn(caughtFrom)])
		}
	}
	for i := caughtFrom; i < len(texts); i++ {
		for range 1 + d.Intn(2) {
			from := d.Intn(len(texts))
			m.Catches = append(m.Catches, caught(at[from], at[from+1+d.Intn(len(texts)-from)], at[i], d.pick("Fault", "Bad", "Worse", "ZeroFault", "NullFault")))
		}
	}
}

// spoil changes something anywhere in a method.
func (d dice) spoil(m *api.Method) {
	at := d.Intn(len(m.Code))
	i := &m.Code[at]
	switch d.Intn(12) {
	case 0:
		m.Code = slices.Delete(m.Code, at, at+1)
	case 1:
		m.Code = slices.Insert(m.Code, at, read(d.pick("pop", "null", "int 1", "return", "add", "swap", "throw"))...)
	case 2:
		i.N = int64(d.Intn(len(m.Code)+3) - 1)
	case 3:
		*i = api.Instr{Op: d.pick("jump", "branch"), N: int64(d.Intn(len(m.Code)+3) - 1)}
	case 4:
		*i = api.Instr{Op: d.pick("load", "store"), N: int64(d.Intn(m.Locals+2) - 1)}
	case 5:
		i.S = d.pick("Z", "T", "A.none", "A", "B.y")
	case 6:
		m.Code = m.Code[:at]
	case 7:
		m.Locals = d.Intn(m.Locals)
	case 8:
		m.Params = append(m.Params, d.pick("Z", "null", "A", "int[]"))
	case 9:
		m.Result = d.pick("Z", "null", "B", "text")
	case 10:
		m.Catches = append(m.Catches, caught(d.Intn(len(m.Code)+4)-2, d.Intn(len(m.Code)+4)-2, d.Intn(len(m.Code)+2)-1, d.pick("Fault", "Bad", "A", "Z")))
	case 11:
		i.Op = d.pick("nop", "neg", "dup", "is", "pop", "return", "null")
	}
}

// P8.1: random methods, against the second definition.
func TestMethodAgainstSecondDefinition(t *testing.T) {
	h, d := zoo(t), newDice(8)
	seen := map[api.Errno]int{}
	for range 8000 {
		m, class := d.method(), d.pick("A", "A", "B", "D", "C")
		want, wantAt, wantE := wanted(h, class, m)
		unchanged(t, m, func() {
			got, at, e := verify.Method(h, class, m)
			if !sameShapes(got, want) || at != wantAt || e != wantE {
				t.Fatalf("%v of %s: %d at %d, want %d at %d\n%s\nwant\n%s", m, class, e, at, wantE, wantAt, show(got), show(want))
			}
		})
		seen[wantE]++
	}
	for e, least := range map[api.Errno]int{api.OK: 1000, api.ErrVerifyJump: 50, api.ErrVerifyFall: 50, api.ErrVerifyStack: 50, api.ErrVerifyKind: 50, api.ErrVerifyLocal: 50, api.ErrVerifyMerge: 50, api.ErrVerifyName: 50} {
		if seen[e] < least {
			t.Errorf("only %d methods with error %d", seen[e], e)
		}
	}
}
