package names_test

import (
	"maps"
	"testing"

	"kiln/names"
)

func TestNamesOfThreeSpaces(t *testing.T) {
	table := names.Table[int]{}
	for number, space := range []names.Space{names.Variables, names.Constructors, names.Types} {
		key := names.Key{Space: space, Name: "ref"}
		if table.Has(key) {
			t.Errorf("%v is there ahead of being bound", key)
		}
		table.Bind(key, number)
		if !table.Has(key) || table[key] != number {
			t.Errorf("%v: %d, want %d", key, table[key], number)
		}
	}
	if len(table) != 3 {
		t.Errorf("the table has %v", table)
	}
}

func TestNamesBoundAgainComeBack(t *testing.T) {
	x, y := names.Key{Space: names.Variables, Name: "x"}, names.Key{Space: names.Variables, Name: "y"}
	table := names.Table[int]{x: 0}
	before := maps.Clone(table)
	unbindFirst := table.Bind(x, 1)
	unbindSecond := table.Bind(x, 2)
	unbindOther := table.Bind(y, 3)
	if table[x] != 2 || table[y] != 3 {
		t.Errorf("bound again: %v", table)
	}
	unbindOther()
	unbindSecond()
	if table[x] != 1 || table.Has(y) {
		t.Errorf("the last ones taken back: %v", table)
	}
	unbindFirst()
	if !maps.Equal(table, before) {
		t.Errorf("all taken back: %v, want %v", table, before)
	}
}
