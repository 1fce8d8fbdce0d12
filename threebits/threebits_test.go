package threebits

import (
	"slices"
	"testing"

	"customhouse/api"
)

func TestPatterns(t *testing.T) {
	for pattern, want := range map[string]api.Cube{
		"xxx": {},
		"1xx": {Value: api.Head{Hi: 1 << 63}, Care: api.Head{Hi: 1 << 63}},
		"x0x": {Care: api.Head{Hi: 1}},
		"xx1": {Value: api.Head{Lo: 1}, Care: api.Head{Lo: 1}},
		"0v1": {Value: api.Head{Hi: 1, Lo: 1}, Care: api.Head{Hi: 1 << 63, Lo: 1}},
	} {
		if got := Cube(pattern); got != want {
			t.Errorf("%s: %v", pattern, got)
		}
	}
}

func TestHeads(t *testing.T) {
	for n, pattern := range []string{"000", "001", "010", "011", "100", "101", "110", "111"} {
		if Head(uint64(n)) != Cube(pattern).Value {
			t.Error(n)
		}
	}
}

func TestCubes(t *testing.T) {
	want := []api.Cube{Cube("01x"), Cube("xxx"), Cube("1v0")}
	if got := Cubes("01x xxx", "1v0"); !slices.Equal(got, want) {
		t.Error(got)
	}
	if got := Cubes(); len(got) != 0 {
		t.Error(got)
	}
	want = []api.Cube{Cube("000"), Cube("00x"), Cube("0x0"), Cube("0xx"), Cube("x00"), Cube("x0x"), Cube("xx0"), Cube("xxx")}
	if got := All("0x"); !slices.Equal(got, want) {
		t.Error(got)
	}
}
