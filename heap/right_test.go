package heap

import (
	"testing"

	"squinch/api"
	"squinch/hier"
)

// P9.3: heaps that no call builds, as all that the calls build are well-typed (P9.4).
func TestRightOfBrokenHeaps(t *testing.T) {
	table, _, e := hier.New([]api.Class{
		{Name: "A", Super: "Object", Abstract: true, Fields: []api.Field{{Name: "x", Kind: "int"}}},
		{Name: "B", Super: "A", Fields: []api.Field{{Name: "next", Kind: "A"}}},
		{Name: "I", Super: "Object", Interface: true, Abstract: true},
	})
	if e != api.OK {
		t.Fatal(e)
	}
	num, null, b, array := api.Value{Sort: api.Int, N: 7}, api.Value{}, api.Value{Sort: api.Ref, Ref: 0}, api.Value{Sort: api.Ref, Ref: 1}
	text := api.Value{Sort: api.Text, S: "a"}
	for _, x := range []struct {
		kind   string
		values []api.Value
		want   bool
	}{
		{"B", []api.Value{num, null}, true}, {"B", []api.Value{num, b}, true}, {"Object", nil, true}, {"Fault", []api.Value{text}, true},
		{"A[]", nil, true}, {"A[]", []api.Value{null, b, null}, true}, {"int[]", []api.Value{num}, true}, {"Object[]", []api.Value{array, b}, true}, {"A[][]", []api.Value{array}, true}, {"I[][][]", []api.Value{null}, true},
		// Kinds that no object has.
		{"", nil, false}, {"A", []api.Value{num}, false}, {"I", nil, false}, {"Z", nil, false}, {"int", nil, false}, {"null", nil, false}, {"text", nil, false}, {"A[][][][]", nil, false}, {"null[]", nil, false}, {"[]", nil, false}, {"Z[]", []api.Value{null}, false},
		// Too few values, or too many.
		{"B", nil, false}, {"B", []api.Value{num}, false}, {"B", []api.Value{num, null, null}, false}, {"Object", []api.Value{null}, false}, {"Fault", nil, false},
		// Values that do not fit, or are not valid.
		{"B", []api.Value{null, null}, false}, {"B", []api.Value{num, num}, false}, {"B", []api.Value{num, array}, false}, {"B", []api.Value{num, {Sort: api.Ref, Ref: 4}}, false}, {"B", []api.Value{num, {Sort: api.Ref, Ref: -1}}, false}, {"B", []api.Value{num, {Sort: api.Null, N: 1}}, false}, {"B", []api.Value{{Sort: api.Int, S: "a"}, null}, false}, {"B", []api.Value{{Sort: 5}, null}, false},
		{"Fault", []api.Value{{Sort: api.Text, S: "\xff"}}, false}, {"Fault", []api.Value{null}, false}, {"bool[]", []api.Value{{Sort: api.Bool, N: 2}}, false},
		{"A[]", []api.Value{array}, false}, {"A[]", []api.Value{null, num}, false}, {"A[]", []api.Value{num, null}, false}, {"int[]", []api.Value{null}, false}, {"int[]", []api.Value{num, num, text}, false}, {"I[]", []api.Value{b}, false}, {"A[][]", []api.Value{b}, false},
	} {
		h, _ := New(table, 100)
		h.Object("B")
		h.Array("A", 2)
		h.Object("B")
		h.Object("B")
		for n := 2; n < 4; n++ {
			right := h.cells[n]
			if !h.Right() {
				t.Fatal("not right")
			}
			h.cells[n] = api.Cell{Kind: x.kind, Values: x.values}
			if got := h.Right(); got != x.want {
				t.Errorf("%v as object %d: %v", x, n, got)
			}
			h.cells[n] = right
		}
	}
}
