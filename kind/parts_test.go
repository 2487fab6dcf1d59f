package kind_test

import (
	"strings"
	"testing"

	"squinch/api"
	"squinch/kind"
)

func checkParts(t *testing.T, s, class, member string) {
	t.Helper()
	if c, m, e := kind.Parts(s); c != class || m != member || e != api.OK {
		t.Errorf("Parts(%.80q) = %.80q, %.80q, %d, want %q, %q", s, c, m, e, class, member)
	}
}

func checkNoMember(t *testing.T, s string) {
	t.Helper()
	if c, m, e := kind.Parts(s); c != "" || m != "" || e != api.ErrKindForm {
		t.Errorf("Parts(%.80q) = %.80q, %.80q, %d, want error %d", s, c, m, e, api.ErrKindForm)
	}
}

// P3.2
func TestMembers(t *testing.T) {
	for _, class := range []string{"A", "Z", "Node", "N9", "Int", long("A", 31), long("A", 32)} {
		for _, member := range []string{"a", "z", "next", "next2", "nextOne", "int", "bool", "text", long("a", 31), long("a", 32)} {
			checkParts(t, class+"."+member, class, member)
		}
	}
}

// P3.2: without a point, or with more than one.
func TestNumberOfPoints(t *testing.T) {
	for _, s := range []string{
		"", "Node", "next", "Nodenext", "Node next", "Node,next", "Node:next", "Node．next", "Node·next",
		".", "..", "...", "Node.", ".next", "Node..next", "Node.next.", ".Node.next", "Node.next.other", "Node.Node.next", "A.b.c.d",
	} {
		checkNoMember(t, s)
	}
}

// P3.2: before the point stands a class name, nothing else.
func TestWhatStandsBeforeThePoint(t *testing.T) {
	for _, s := range []string{
		"node", "n", "int", "bool", "text", "Node[]", "Node[][]", "int[]", "[]", "1A", "0", "Nöde", "Élan", "N_1", " Node", "Node ", "\x00",
		"\xffNode", "Node\xff", "N\xc3", long("A", 33), long("A", 64), long("a", 33),
	} {
		checkNoMember(t, s+".next")
	}
}

// P3.2: behind the point stands a member name, nothing else.
func TestWhatStandsBehindThePoint(t *testing.T) {
	for _, s := range []string{
		"Next", "N", "Node", "next[]", "int[]", "Next[]", "[]", "1a", "0", "néxt", "étoile", "n_1", " next", "next ", "next\n", "\x00",
		"\xffnext", "next\xff", "n\xc3", "next()", long("a", 33), long("a", 64), long("A", 33),
	} {
		checkNoMember(t, "Node."+s)
	}
}

// P1 and P3.2
func TestPartsOfLongStrings(t *testing.T) {
	for _, s := range []string{".", "A.b", "A", "a", "[]", "\xff", "é"} {
		checkNoMember(t, strings.Repeat(s, 1<<18))
	}
	checkNoMember(t, "A."+strings.Repeat("b", 1<<20))
	checkNoMember(t, strings.Repeat("A", 1<<20)+".b")
}
