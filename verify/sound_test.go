package verify_test

import (
	"testing"

	"squinch/api"
	"squinch/hier"
	"squinch/step"
	"squinch/verify"
)

// below returns for each kind of a small world its subkinds.
func below(h *hier.Table) map[string][]string {
	kinds := append(h.Names(), "int", "bool", "text", "null", "A[]", "B[]", "int[]", "int[][]")
	l := map[string][]string{}
	for _, a := range kinds {
		for _, b := range kinds {
			if h.Sub(b, a) {
				l[a] = append(l[a], b)
			}
		}
	}
	return l
}

// fitting returns kinds that fit a shape; a local that is not set may have any kind, or none.
func (d dice) fitting(s api.Shape, lower map[string][]string) (stack, locals []string) {
	for _, k := range s.Stack {
		stack = append(stack, d.pick(lower[k]...))
	}
	for _, k := range s.Locals {
		if k == "" {
			locals = append(locals, d.pick("", "int", "A", "null", "Z"))
		} else {
			locals = append(locals, d.pick(lower[k]...))
		}
	}
	return stack, locals
}

// nullForArray reports whether an instruction finds null where it takes an array. There Do has an error by chapter 7, though null is a subkind of all array kinds: the one case in which P7.4 and P8.3 do not hold as they are written.
func nullForArray(i api.Instr, stack []string) bool {
	n := map[string]int{"size": 1, "at": 2, "set": 3}[i.Op]
	return n > 0 && stack[len(stack)-n] == "null"
}

// P8.3: random methods that are accepted, with random kinds that fit.
func TestSoundness(t *testing.T) {
	h, d := zoo(t), newDice(13)
	lower := below(h)
	steps, catches, nulls := 0, 0, 0
	for range 3000 {
		m, class := d.method(), d.pick("A", "B", "D")
		shapes, _, e := verify.Method(h, class, m)
		for at, s := range shapes {
			if e != api.OK || !s.Seen {
				continue
			}
			for range 3 {
				stack, locals := d.fitting(s, lower)
				if !verify.Fits(h, s, stack, locals) {
					t.Fatalf("%v, %v do not fit %v", stack, locals, s)
				}
				catches += checkCaught(t, h, d, m, at, shapes, locals, lower)
				after, e := step.Do(h, m, m.Code[at], api.Shape{Seen: true, Stack: stack, Locals: locals})
				if nullForArray(m.Code[at], stack) {
					nulls++
					continue
				}
				next, ok := step.Next(m.Code, at)
				if e != api.OK || !ok {
					t.Fatalf("%v at %d: %d on %v, which fits %v", m, at, e, stack, s)
				}
				for _, to := range next {
					steps++
					if !verify.Fits(h, shapes[to], after.Stack, after.Locals) {
						t.Fatalf("%v from %d to %d: %v does not fit %v", m, at, to, after, shapes[to])
					}
				}
			}
		}
	}
	if steps < 20000 || catches < 5000 || nulls < 50 {
		t.Errorf("only %d steps, %d catches, %d times null", steps, catches, nulls)
	}
}

// checkCaught checks that what an instruction throws fits where it is caught, and returns how many catches that were.
func checkCaught(t *testing.T, h *hier.Table, d dice, m api.Method, at int, shapes []api.Shape, locals []string, lower map[string][]string) int {
	t.Helper()
	n := 0
	for _, c := range m.Catches {
		if c.From <= at && at < c.To {
			n++
			thrown := d.pick(lower[c.Class]...)
			if !verify.Fits(h, shapes[c.At], []string{thrown}, locals) {
				t.Fatalf("%v: %s, thrown at %d with %v, does not fit %v at %d", m, thrown, at, locals, shapes[c.At], c.At)
			}
		}
	}
	return n
}
