package rule

import (
	"math"
	"slices"
	"testing"

	"customhouse/api"
	"customhouse/cube"
)

// The ports of most tests: an Edge at either end, a Link between, and ports of kinds that do not exist.
func somePorts() []api.Port {
	return []api.Port{{Kind: api.Edge, Tenant: 1}, {Kind: api.Link, Peer: 1, At: 2, Cost: 3}, {}, {Kind: 3}, {Kind: -1}, {Kind: api.Link}, {Kind: api.Edge}}
}

// numbers are those around all bounds of ports and tables, and the extreme ones.
func numbers() []int {
	out := []int{math.MinInt, math.MinInt + 1, math.MaxInt - 1, math.MaxInt}
	for n := -3; n <= 9; n++ {
		out = append(out, n)
	}
	return out
}

func doing(do api.Do) api.Rule { return api.Rule{Do: do} }

// bitCube is a cube of one bit's place: with the bits of value and care there.
func bitCube(n int, value, care uint64) api.Cube {
	if n >= 64 {
		return api.Cube{Value: api.Head{Hi: value << (n - 64)}, Care: api.Head{Hi: care << (n - 64)}}
	}
	return api.Cube{Value: api.Head{Lo: value << n}, Care: api.Head{Lo: care << n}}
}

func TestSoundOfDrop(t *testing.T) {
	for _, port := range numbers() {
		for _, table := range numbers() {
			for _, in := range numbers() {
				r := doing(api.Do{Kind: api.Drop, Port: port, Table: table})
				if got := Sound(r, in, somePorts()); got != (port == 0 && table == 0) {
					t.Errorf("Drop with Port %d, Table %d in table %d: %v", port, table, in, got)
				}
			}
		}
	}
}

func TestSoundOfDeliverAndForward(t *testing.T) {
	for _, c := range []struct{ kind, first, last int }{{api.Deliver, 0, 6}, {api.Forward, 1, 5}} {
		for _, port := range numbers() {
			for _, table := range numbers() {
				r := doing(api.Do{Kind: c.kind, Port: port, Table: table})
				want := (port == c.first || port == c.last) && table == 0
				if got := Sound(r, 0, somePorts()); got != want {
					t.Errorf("Kind %d with Port %d, Table %d: %v", c.kind, port, table, got)
				}
			}
		}
	}
}

func TestSoundOfDeliverAndForwardInAnyTable(t *testing.T) {
	for _, in := range numbers() {
		if !Sound(doing(api.Do{Kind: api.Deliver}), in, somePorts()) {
			t.Errorf("Deliver in table %d", in)
		}
		if !Sound(doing(api.Do{Kind: api.Forward, Port: 1}), in, somePorts()) {
			t.Errorf("Forward in table %d", in)
		}
	}
}

func TestSoundLooksAtNothingElseOfAPort(t *testing.T) {
	odd := []api.Port{
		{Kind: api.Edge, Tenant: -1, Peer: 99, At: math.MinInt, Cost: math.MaxInt},
		{Kind: api.Link, Tenant: 7, Peer: -1, At: -1, Cost: -1},
	}
	if !Sound(doing(api.Do{Kind: api.Deliver, Port: 0}), 0, odd) || !Sound(doing(api.Do{Kind: api.Forward, Port: 1}), 0, odd) {
		t.Error("a port's other fields are not the rule's")
	}
	many := make([]api.Port, api.MaxPorts+3)
	many[api.MaxPorts+2].Kind = api.Link
	if !Sound(doing(api.Do{Kind: api.Forward, Port: api.MaxPorts + 2}), 0, many) {
		t.Error("how many ports there may be is not the rule's")
	}
}

func TestSoundWithoutPorts(t *testing.T) {
	for _, ports := range [][]api.Port{nil, {}, somePorts()[:0]} {
		for _, port := range numbers() {
			if Sound(doing(api.Do{Kind: api.Deliver, Port: port}), 0, ports) || Sound(doing(api.Do{Kind: api.Forward, Port: port}), 0, ports) {
				t.Errorf("port %d of none", port)
			}
		}
		if !Sound(doing(api.Do{Kind: api.Drop}), 0, ports) || !Sound(doing(api.Do{Kind: api.Goto, Table: 1}), 0, ports) {
			t.Error("Drop and Goto need no ports")
		}
	}
}

func TestSoundOfGoto(t *testing.T) {
	for _, port := range numbers() {
		for _, table := range numbers() {
			for _, in := range numbers() {
				r := doing(api.Do{Kind: api.Goto, Port: port, Table: table})
				want := port == 0 && in < table && table <= 2
				if got := Sound(r, in, somePorts()); got != want {
					t.Errorf("Goto with Port %d, Table %d in table %d: %v", port, table, in, got)
				}
			}
		}
	}
}

func TestSoundOfNoKind(t *testing.T) {
	for _, kind := range []int{math.MinInt, -1, 0, 5, 6, math.MaxInt} {
		for port := range somePorts() {
			for table := range api.MaxTables {
				if Sound(doing(api.Do{Kind: kind, Port: port, Table: table}), 0, somePorts()) {
					t.Errorf("Kind %d with Port %d, Table %d", kind, port, table)
				}
			}
		}
	}
}

// sounds are a sound rule of each kind, for table 0 and somePorts.
func sounds() []api.Rule {
	return []api.Rule{
		doing(api.Do{Kind: api.Drop}),
		doing(api.Do{Kind: api.Deliver, Port: 6}),
		doing(api.Do{Kind: api.Forward, Port: 1}),
		doing(api.Do{Kind: api.Goto, Table: 2}),
	}
}

func TestSoundOfPriorities(t *testing.T) {
	wants := map[int]bool{0: true, 1: true, 1<<20 - 1: true, 1 << 20: true, 1<<20 + 1: false, 1 << 32: false, -1: false, -1 << 20: false, math.MinInt: false, math.MaxInt: false}
	for _, r := range sounds() {
		for priority, want := range wants {
			r.Priority = priority
			if Sound(r, 0, somePorts()) != want {
				t.Errorf("Kind %d, Priority %d: not %v", r.Do.Kind, priority, want)
			}
		}
	}
}

func TestSoundOfCubes(t *testing.T) {
	for _, r := range sounds() {
		for n := range 128 {
			for bits := range uint64(4) {
				c, want := bitCube(n, bits&1, bits>>1), bits != 1
				matching, setting := r, r
				matching.Match, setting.Do.Set = c, c
				if Sound(matching, 0, somePorts()) != want || Sound(setting, 0, somePorts()) != want {
					t.Errorf("Kind %d, bit %d, value and care %b: not %v", r.Do.Kind, n, bits, want)
				}
			}
		}
	}
}

func TestSoundChangesNothing(t *testing.T) {
	ports := somePorts()
	for _, r := range sounds() {
		Sound(r, 0, ports[:3])
	}
	if !slices.Equal(ports, somePorts()) {
		t.Error(ports)
	}
}

// differing are rules that differ from full in one field each.
func differing(full api.Rule) []api.Rule {
	changes := []func(*api.Rule){
		func(r *api.Rule) { r.Priority++ },
		func(r *api.Rule) { r.Match.Value.Hi++ },
		func(r *api.Rule) { r.Match.Value.Lo++ },
		func(r *api.Rule) { r.Match.Care.Hi++ },
		func(r *api.Rule) { r.Match.Care.Lo++ },
		func(r *api.Rule) { r.Do.Kind++ },
		func(r *api.Rule) { r.Do.Port++ },
		func(r *api.Rule) { r.Do.Table++ },
		func(r *api.Rule) { r.Do.Set.Value.Hi++ },
		func(r *api.Rule) { r.Do.Set.Value.Lo++ },
		func(r *api.Rule) { r.Do.Set.Care.Hi++ },
		func(r *api.Rule) { r.Do.Set.Care.Lo++ },
	}
	var out []api.Rule
	for _, change := range changes {
		r := full
		change(&r)
		out = append(out, r)
	}
	return out
}

func fullRule() api.Rule {
	return api.Rule{
		Priority: 1,
		Match:    api.Cube{Value: api.Head{Hi: 2, Lo: 3}, Care: api.Head{Hi: 4, Lo: 5}},
		Do:       api.Do{Kind: 6, Port: 7, Table: 8, Set: api.Cube{Value: api.Head{Hi: 9, Lo: 10}, Care: api.Head{Hi: 11, Lo: 12}}},
	}
}

func TestSame(t *testing.T) {
	for _, r := range append(sounds(), api.Rule{}, fullRule(), api.Rule{Priority: math.MinInt}) {
		if !Same(r, r) {
			t.Errorf("%v is not itself", r)
		}
	}
	for _, full := range []api.Rule{{}, fullRule()} {
		for _, other := range differing(full) {
			if Same(full, other) || Same(other, full) {
				t.Errorf("%v and %v", full, other)
			}
		}
	}
}

// Two cubes can have the same headers (none) and yet differ: the rules are then not equal.
func TestSameOfUnsoundCubes(t *testing.T) {
	a, b := api.Rule{Match: bitCube(0, 1, 0)}, api.Rule{Match: bitCube(1, 1, 0)}
	if Same(a, b) || !Same(a, a) {
		t.Error("rules are equal if their fields are")
	}
}

func TestBefore(t *testing.T) {
	rising := []int{math.MinInt, -1, 0, 1, 2, 1 << 20, 1<<20 + 1, math.MaxInt}
	for i, x := range rising {
		for j, y := range rising {
			a, b := fullRule(), fullRule()
			a.Priority, b.Priority = x, y
			if Before(a, b) != (i > j) {
				t.Errorf("priorities %d and %d", x, y)
			}
		}
	}
}

func TestBeforeLooksAtPriorityAlone(t *testing.T) {
	full := fullRule()
	for _, other := range differing(full)[1:] {
		if Before(full, other) || Before(other, full) {
			t.Errorf("%v and %v", full, other)
		}
		other.Priority++
		if Before(full, other) || !Before(other, full) {
			t.Errorf("%v is above %v", other, full)
		}
	}
}

// numbered are rules with these priorities, whose ports number them.
func numbered(priorities ...int) []api.Rule {
	var out []api.Rule
	for n, p := range priorities {
		out = append(out, api.Rule{Priority: p, Do: api.Do{Port: n}})
	}
	return out
}

func places(list []api.Rule) []int {
	var out []int
	for _, r := range list {
		out = append(out, r.Do.Port)
	}
	return out
}

func TestSort(t *testing.T) {
	for _, c := range []struct{ priorities, want []int }{
		{nil, nil},
		{[]int{5}, []int{0}},
		{[]int{1, 5, 1}, []int{1, 0, 2}},
		{[]int{3, 2, 1}, []int{0, 1, 2}},
		{[]int{1, 2, 3}, []int{2, 1, 0}},
		{[]int{7, 7, 7, 7}, []int{0, 1, 2, 3}},
		{[]int{0, math.MinInt, math.MaxInt, -1, 0, math.MaxInt, math.MinInt}, []int{2, 5, 0, 4, 3, 1, 6}},
	} {
		if got := places(Sort(numbered(c.priorities...))); !slices.Equal(got, c.want) {
			t.Errorf("%v: %v, not %v", c.priorities, got, c.want)
		}
	}
}

// A list is long enough here that a sort which is not stable would show.
func TestSortIsStable(t *testing.T) {
	for _, length := range []int{api.MaxRules, 1000, 5000} {
		var priorities, want []int
		for n := range length {
			priorities = append(priorities, n*7919%5)
		}
		for p := 4; p >= 0; p-- {
			for n, q := range priorities {
				if p == q {
					want = append(want, n)
				}
			}
		}
		if got := places(Sort(numbered(priorities...))); !slices.Equal(got, want) {
			t.Errorf("%d rules: %v", length, got)
		}
	}
}

// Only the priority orders: not the match, not the kind, and rules that are equal all remain.
func TestSortKeepsAllOfEachRule(t *testing.T) {
	full := fullRule()
	list := append(differing(full), full, full, api.Rule{})
	want := append([]api.Rule{list[0]}, list[1:]...) // the first differs by a greater priority, the last has the lowest one
	if got := Sort(list); !slices.Equal(got, want) {
		t.Errorf("%v, not %v", got, want)
	}
	slices.Reverse(list)
	got := Sort(list)
	want = append([]api.Rule{list[len(list)-1]}, list[1:len(list)-1]...)
	want = append(want, list[0])
	if !slices.Equal(got, want) {
		t.Errorf("%v, not %v", got, want)
	}
}

func TestSortSharesNoMemory(t *testing.T) {
	backing := numbered(1, 2, 3, 4, 5, 6)
	before := slices.Clone(backing)
	list := backing[1:4]
	first, second := Sort(list), Sort(list)
	for _, sorted := range [][]api.Rule{first, second} {
		if !slices.Equal(places(sorted), []int{3, 2, 1}) {
			t.Fatal(sorted)
		}
	}
	whole := first[:cap(first)]
	for n := range whole {
		whole[n] = api.Rule{Priority: -9}
	}
	_ = append(first, api.Rule{Priority: -9})
	if !slices.Equal(backing, before) {
		t.Error("Sort's result and its argument share memory, or Sort changed its argument")
	}
	if !slices.Equal(places(second), []int{3, 2, 1}) {
		t.Error("two results share memory")
	}
}

func TestSortOfNothing(t *testing.T) {
	backing := numbered(1, 2)
	for _, list := range [][]api.Rule{nil, {}, backing[:0]} {
		got := Sort(list)
		if len(got) != 0 {
			t.Error(got)
		}
		_ = append(got, api.Rule{Priority: -9})
	}
	if !slices.Equal(backing, numbered(1, 2)) {
		t.Error("the argument's spare capacity was given out")
	}
}

func TestSet(t *testing.T) {
	for _, c := range []struct {
		set     api.Cube
		h, want api.Head
	}{
		{api.Cube{}, api.Head{Hi: 5, Lo: 6}, api.Head{Hi: 5, Lo: 6}},
		{api.Cube{Value: api.Head{Lo: 1}, Care: api.Head{Lo: 3}}, api.Head{Lo: 6}, api.Head{Lo: 5}},
		{api.Cube{Value: api.Head{Hi: 0xf0}, Care: api.Head{Hi: 0xff, Lo: 0xff}}, api.Head{Hi: 0xabcd, Lo: 0x1234}, api.Head{Hi: 0xabf0, Lo: 0x1200}},
		{api.Cube{Care: api.Head{Hi: math.MaxUint64, Lo: math.MaxUint64}}, api.Head{Hi: 7, Lo: 8}, api.Head{}},
		// Bits of Value that Care does not have are not set.
		{api.Cube{Value: api.Head{Hi: 6, Lo: 7}, Care: api.Head{Hi: 2}}, api.Head{Lo: 8}, api.Head{Hi: 2, Lo: 8}},
	} {
		for _, r := range append(sounds(), api.Rule{}, fullRule()) {
			r.Do.Set = c.set
			if got := Set(r, c.h); got != c.want || got != cube.Set(c.h, c.set) {
				t.Errorf("%v of %v: %v, not %v", c.set, c.h, got, c.want)
			}
		}
	}
}

// A header that the rule does not match is set all the same, and what matches is not taken for what is set.
func TestSetLooksAtDoAlone(t *testing.T) {
	r := api.Rule{Priority: -1, Match: bitCube(0, 1, 1), Do: api.Do{Kind: 99, Port: -1, Table: -1, Set: bitCube(127, 1, 1)}}
	if got := Set(r, api.Head{Lo: 4}); got != (api.Head{Hi: 1 << 63, Lo: 4}) {
		t.Error(got)
	}
}
