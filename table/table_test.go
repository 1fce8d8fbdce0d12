package table

import (
	"math"
	"slices"
	"testing"

	"customhouse/api"
	"customhouse/cube"
	"customhouse/pile"
	"customhouse/threebits"
)

func smallRule(priority int, pattern string) api.Rule {
	return api.Rule{Priority: priority, Match: threebits.Cube(pattern), Do: api.Do{Kind: api.Drop}}
}

// somePatterns are cubes that overlap, are subsets of one another, or have nothing in common.
func somePatterns() []string {
	return []string{"xxx", "0xx", "1xx", "x1x", "xx0", "01x", "1x1", "x00", "011", "111"}
}

// someRules are all rules of these patterns with a low, a middle and a high priority.
func someRules(patterns []string) []api.Rule {
	var out []api.Rule
	for _, pattern := range patterns {
		for _, priority := range []int{0, 7, 1 << 20} {
			out = append(out, smallRule(priority, pattern))
		}
	}
	return out
}

// listsOf are all lists of at most n of the rules.
func listsOf(some []api.Rule, n int) [][]api.Rule {
	out := [][]api.Rule{nil}
	if n == 0 {
		return out
	}
	for _, rest := range listsOf(some, n-1) {
		for _, r := range some {
			out = append(out, append([]api.Rule{r}, rest...))
		}
	}
	return out
}

// triedByHand is the places of the rules in the order of the chapter: the highest priority that is left, and its first place.
func triedByHand(list []api.Rule) []int {
	var out []int
	for len(out) < len(list) {
		next := -1
		for n, r := range list {
			if !slices.Contains(out, n) && (next < 0 || r.Priority > list[next].Priority) {
				next = n
			}
		}
		out = append(out, next)
	}
	return out
}

func findByHand(list []api.Rule, h api.Head) (int, bool) {
	for _, n := range triedByHand(list) {
		if cube.Has(list[n].Match, h) {
			return n, true
		}
	}
	return 0, false
}

func TestFindOfSmallLists(t *testing.T) {
	for _, list := range append(listsOf(someRules(somePatterns()), 2), listsOf(someRules([]string{"xxx", "0x1", "01x", "vxx"}), 3)...) {
		for n := range uint64(threebits.Heads) {
			want, there := findByHand(list, threebits.Head(n))
			if got, ok := Find(list, threebits.Head(n)); got != want || ok != there {
				t.Fatalf("Find(%v, %03b) = %d, %t, want %d, %t", list, n, got, ok, want, there)
			}
		}
	}
}

func TestFindWrittenOut(t *testing.T) {
	list := []api.Rule{smallRule(1, "0xx"), smallRule(3, "x11"), smallRule(2, "xx0"), smallRule(1, "01x"), smallRule(3, "011"), smallRule(1, "101"), smallRule(0, "1xx")}
	for n, want := range []int{2, 0, 2, 1, 2, 5, 2, 1} {
		if got, ok := Find(list, threebits.Head(uint64(n))); got != want || !ok {
			t.Errorf("%03b: %d, %t, want %d", n, got, ok, want)
		}
	}
	for _, n := range []uint64{0b000, 0b001, 0b011, 0b111} {
		if got, ok := Find([]api.Rule{smallRule(9, "1x0"), smallRule(1, "010"), smallRule(5, "101")}, threebits.Head(n)); got != 0 || ok {
			t.Errorf("%03b: %d, %t", n, got, ok)
		}
	}
}

func TestFindInNothing(t *testing.T) {
	for _, list := range [][]api.Rule{nil, {}, make([]api.Rule, 0, 5)} {
		if n, ok := Find(list, api.Head{}); n != 0 || ok {
			t.Error(n, ok)
		}
	}
}

// Priorities and kinds that no sound rule has are no reason not to be found.
func TestFindByExtremePriorities(t *testing.T) {
	rising := []int{math.MinInt, -1, 0, 1, 1 << 20, 1<<20 + 1, math.MaxInt}
	for i, low := range rising {
		for _, high := range rising[i+1:] {
			for _, c := range []struct {
				priorities []int
				want       int
			}{{[]int{low, high}, 1}, {[]int{high, low}, 0}, {[]int{low, high, high}, 1}, {[]int{low, low}, 0}, {[]int{high, high}, 0}} {
				var list []api.Rule
				for _, p := range c.priorities {
					list = append(list, api.Rule{Priority: p})
				}
				if n, ok := Find(list, api.Head{Hi: 5, Lo: 6}); n != c.want || !ok {
					t.Errorf("%v: %d, %t", c.priorities, n, ok)
				}
			}
		}
	}
}

func TestFindLooksAtNothingElse(t *testing.T) {
	odd := api.Do{Kind: -1, Port: 99, Table: math.MinInt, Set: threebits.Cube("vvv")}
	list := []api.Rule{{Match: threebits.Cube("1xx")}, {Match: threebits.Cube("0xx"), Do: odd}, {Match: threebits.Cube("xxx")}}
	if n, ok := Find(list, threebits.Head(0b010)); n != 1 || !ok {
		t.Error(n, ok)
	}
}

// No header is in a cube that is not sound, whatever its Care.
func TestFindOfUnsoundMatches(t *testing.T) {
	list := []api.Rule{smallRule(9, "vxx"), smallRule(9, "1v1"), smallRule(0, "11x"), smallRule(9, "vvv")}
	for n := range uint64(threebits.Heads) {
		want, there := 0, n>>1 == 0b11
		if there {
			want = 2
		}
		if got, ok := Find(list, threebits.Head(n)); got != want || ok != there {
			t.Errorf("%03b: %d, %t", n, got, ok)
		}
	}
}

func numberCube(n int) api.Cube {
	return api.Cube{Value: api.Head{Lo: uint64(n)}, Care: api.Head{Lo: 1<<12 - 1}}
}

// long is a list of rules for one number each, whose priorities go up and down among some, and one for all numbers at its end.
func long(length, priorities int) []api.Rule {
	var list []api.Rule
	for n := range length {
		list = append(list, api.Rule{Priority: 1 + n*7919%priorities, Match: numberCube(n)})
	}
	return append(list, api.Rule{})
}

func TestFindInLongLists(t *testing.T) {
	for _, length := range []int{api.MaxRules, api.MaxCubes + 1, 2000} {
		list := long(length, 5)
		for n := range length + 3 {
			if got, ok := Find(list, api.Head{Hi: 7, Lo: uint64(n)}); got != min(n, length) || !ok {
				t.Fatalf("%d of %d: %d, %t", n, length, got, ok)
			}
		}
	}
}

// lessByHand takes the matches of rules from a pile in the order that is given.
func lessByHand(from api.Cube, list []api.Rule, places []int) []api.Cube {
	left := []api.Cube{from}
	for _, n := range places {
		var next []api.Cube
		for _, c := range left {
			next = append(next, cube.Less(c, list[n].Match)...)
		}
		left = pile.Lean(next)
	}
	return left
}

func TestSeenOfSmallLists(t *testing.T) {
	for _, list := range append(listsOf(someRules(somePatterns()), 2), listsOf(someRules([]string{"xxx", "0x1", "01x", "x10"}), 3)...) {
		places := triedByHand(list)
		for k, n := range places {
			got, e := Seen(list, n)
			if want := lessByHand(list[n].Match, list, places[:k]); e != api.OK || !slices.Equal(got, want) {
				t.Fatalf("Seen(%v, %d) = %x, %d, want %x", list, n, got, e, want)
			}
			for h := range uint64(threebits.Heads) {
				first, ok := findByHand(list, threebits.Head(h))
				if pile.Has(got, threebits.Head(h)) != (ok && first == n) {
					t.Fatalf("Seen(%v, %d) = %x, with %03b", list, n, got, h)
				}
			}
		}
	}
}

func TestMissedOfSmallLists(t *testing.T) {
	for _, list := range append(listsOf(someRules(somePatterns()), 2), listsOf(someRules([]string{"1xx", "0x1", "01x", "x10"}), 3)...) {
		got, e := Missed(list)
		if want := lessByHand(cube.All(), list, triedByHand(list)); e != api.OK || !slices.Equal(got, want) {
			t.Fatalf("Missed(%v) = %x, %d, want %x", list, got, e, want)
		}
		for h := range uint64(threebits.Heads) {
			if _, ok := findByHand(list, threebits.Head(h)); pile.Has(got, threebits.Head(h)) == ok {
				t.Fatalf("Missed(%v) = %x, with %03b", list, got, h)
			}
		}
	}
}

func TestIdleOfSmallLists(t *testing.T) {
	for _, list := range append(listsOf(someRules(somePatterns()), 2), listsOf(someRules([]string{"xxx", "0x1", "01x", "x10"}), 3)...) {
		busy := make([]bool, len(list))
		for h := range uint64(threebits.Heads) {
			if n, ok := findByHand(list, threebits.Head(h)); ok {
				busy[n] = true
			}
		}
		var want []int
		for n := range list {
			if !busy[n] {
				want = append(want, n)
			}
		}
		if got, e := Idle(list); e != api.OK || !slices.Equal(got, want) {
			t.Fatalf("Idle(%v) = %v, %d, want %v", list, got, e, want)
		}
	}
}

// The cubes that remain, and their order, hang on the order in which the rules are tried.
func TestSeenWrittenOut(t *testing.T) {
	for _, c := range []struct {
		name string
		list []api.Rule
		n    int
		want []api.Cube
	}{
		{"alone", []api.Rule{smallRule(0, "01x")}, 0, threebits.Cubes("01x")},
		{"behind the others in the list", []api.Rule{smallRule(1, "11x"), smallRule(1, "x11"), smallRule(1, "xxx")}, 2, threebits.Cubes("00x", "010", "10x")},
		{"and the other way round", []api.Rule{smallRule(1, "x11"), smallRule(1, "11x"), smallRule(1, "xxx")}, 2, threebits.Cubes("x0x", "010")},
		{"by priority", []api.Rule{smallRule(1, "11x"), smallRule(2, "x11"), smallRule(0, "xxx")}, 2, threebits.Cubes("x0x", "010")},
		{"ahead of others in the list", []api.Rule{smallRule(0, "xxx"), smallRule(1, "11x"), smallRule(1, "x11")}, 0, threebits.Cubes("00x", "010", "10x")},
		{"the first one that is tried", []api.Rule{smallRule(1, "xxx"), smallRule(2, "11x"), smallRule(1, "x11")}, 1, threebits.Cubes("11x")},
		{"a part of it", []api.Rule{smallRule(2, "1xx"), smallRule(1, "x1x"), smallRule(9, "0x0")}, 1, threebits.Cubes("011")},
		{"equal rules, the first", []api.Rule{smallRule(3, "1xx"), smallRule(3, "1xx")}, 0, threebits.Cubes("1xx")},
		{"equal rules, the second", []api.Rule{smallRule(3, "1xx"), smallRule(3, "1xx")}, 1, nil},
		{"nothing by two together", []api.Rule{smallRule(0, "x1x"), smallRule(5, "0xx"), smallRule(4, "1xx")}, 0, nil},
	} {
		if got, e := Seen(c.list, c.n); e != api.OK || !slices.Equal(got, c.want) {
			t.Errorf("%s: %x, %d, want %x", c.name, got, e, c.want)
		}
	}
}

func TestMissedWrittenOut(t *testing.T) {
	for _, c := range []struct {
		name string
		list []api.Rule
		want []api.Cube
	}{
		{"nil", nil, []api.Cube{cube.All()}},
		{"empty", []api.Rule{}, []api.Cube{cube.All()}},
		{"one", []api.Rule{smallRule(0, "01x")}, threebits.Cubes("1xx", "00x")},
		{"in the list's order", []api.Rule{smallRule(1, "11x"), smallRule(1, "x11")}, threebits.Cubes("00x", "010", "10x")},
		{"by priority", []api.Rule{smallRule(1, "11x"), smallRule(2, "x11")}, threebits.Cubes("x0x", "010")},
		{"nothing by one", []api.Rule{smallRule(5, "1xx"), smallRule(1, "xxx"), smallRule(0, "000")}, nil},
		{"nothing by two", []api.Rule{smallRule(5, "1xx"), smallRule(5, "0xx")}, nil},
	} {
		if got, e := Missed(c.list); e != api.OK || !slices.Equal(got, c.want) {
			t.Errorf("%s: %x, %d, want %x", c.name, got, e, c.want)
		}
	}
}

func TestIdleWrittenOut(t *testing.T) {
	for _, c := range []struct {
		name string
		list []api.Rule
		want []int
	}{
		{"nil", nil, nil},
		{"empty", []api.Rule{}, nil},
		{"one", []api.Rule{smallRule(0, "000")}, nil},
		{"all but one, in the list's order", []api.Rule{smallRule(1, "000"), smallRule(0, "0xx"), smallRule(2, "xxx"), smallRule(2, "xxx")}, []int{0, 1, 3}},
		{"by two together", []api.Rule{smallRule(0, "xx1"), smallRule(2, "0xx"), smallRule(1, "1xx"), smallRule(0, "1x0")}, []int{0, 3}},
		{"what overlaps is not idle", []api.Rule{smallRule(2, "0xx"), smallRule(1, "x1x"), smallRule(0, "xx1")}, nil},
	} {
		if got, e := Idle(c.list); e != api.OK || !slices.Equal(got, c.want) {
			t.Errorf("%s: %v, %d, want %v", c.name, got, e, c.want)
		}
	}
}

func TestSeenOfNoRule(t *testing.T) {
	lists := [][]api.Rule{nil, {}, make([]api.Rule, 0, 5), {smallRule(1, "0xx")}, long(5, 2)[:3], {smallRule(1, "0xx"), smallRule(1, "vxx")}, wide(128)}
	for _, list := range lists {
		for _, n := range []int{math.MinInt, -2, -1, len(list), len(list) + 1, math.MaxInt} {
			if p, e := Seen(list, n); e != api.ErrRange || len(p) != 0 {
				t.Errorf("rule %d of %d: %x, %d", n, len(list), p, e)
			}
		}
	}
}

// A Match that is not sound is an error wherever it stands: also behind the rule that is asked for.
func TestUnsoundMatches(t *testing.T) {
	for place := range 4 {
		for _, priority := range []int{0, 5, 9} {
			for _, bad := range []api.Cube{threebits.Cube("vxx"), threebits.Cube("xvx"), threebits.Cube("0xv"), threebits.Cube("vvv"), {Value: api.Head{Hi: 1}, Care: api.Head{Lo: 1}}} {
				list := slices.Insert([]api.Rule{smallRule(5, "0xx"), smallRule(5, "xx1"), smallRule(5, "111")}, place, api.Rule{Priority: priority, Match: bad})
				for n := range list {
					if p, e := Seen(list, n); e != api.ErrForm || len(p) != 0 {
						t.Errorf("Seen(%v, %d) = %x, %d", list, n, p, e)
					}
				}
				if p, e := Missed(list); e != api.ErrForm || len(p) != 0 {
					t.Errorf("Missed(%v) = %x, %d", list, p, e)
				}
				if idle, e := Idle(list); e != api.ErrForm || len(idle) != 0 {
					t.Errorf("Idle(%v) = %v, %d", list, idle, e)
				}
			}
		}
	}
}

// Nothing but the Match has to be sound.
func TestSeenLooksAtNothingElse(t *testing.T) {
	odd := api.Do{Kind: -1, Port: 99, Table: math.MinInt, Set: threebits.Cube("vvv")}
	list := []api.Rule{{Priority: math.MinInt, Match: threebits.Cube("xxx"), Do: odd}, {Priority: math.MaxInt, Match: threebits.Cube("1xx"), Do: odd}, {Priority: -1, Match: threebits.Cube("11x"), Do: odd}}
	if p, e := Seen(list, 0); e != api.OK || !slices.Equal(p, threebits.Cubes("0xx")) {
		t.Error(p, e)
	}
	if p, e := Missed(list[1:]); e != api.OK || !slices.Equal(p, threebits.Cubes("0xx")) {
		t.Error(p, e)
	}
	if idle, e := Idle(list); e != api.OK || !slices.Equal(idle, []int{2}) {
		t.Error(idle, e)
	}
}

// wide are two rules that care for all 128 bits and for the highest ones alone, and differ in the highest bit: of all headers, 128 cubes remain behind the first rule, and for all but the highest bit of the second rule one more, as it cuts one of them.
func wide(bits int) []api.Rule {
	var care api.Head
	for n := range bits {
		if n < 64 {
			care.Hi |= 1 << (63 - n)
		} else {
			care.Lo |= 1 << (127 - n)
		}
	}
	return []api.Rule{
		{Priority: 9, Match: api.Cube{Care: api.Head{Hi: math.MaxUint64, Lo: math.MaxUint64}}},
		{Priority: 8, Match: api.Cube{Value: api.Head{Hi: 1 << 63}, Care: care}},
	}
}

func TestTooManyCubes(t *testing.T) {
	const most = api.MaxCubes - 126
	for bits := most - 2; bits <= most+2; bits++ {
		want, count := api.OK, 126+bits
		if bits > most {
			want, count = api.ErrCubes, 0
		}
		list := wide(bits)
		if p, e := Missed(list); e != want || len(p) != count {
			t.Errorf("Missed, %d bits: %d cubes, %d", bits, len(p), e)
		}
		for _, place := range []int{0, 1, 2} {
			list := slices.Insert(slices.Clone(list), place, api.Rule{Priority: 3})
			if p, e := Seen(list, place); e != want || len(p) != count {
				t.Errorf("Seen, %d bits: %d cubes, %d", bits, len(p), e)
			}
			if idle, e := Idle(list); e != want || len(idle) != 0 {
				t.Errorf("Idle, %d bits: %v, %d", bits, idle, e)
			}
		}
	}
}

// Too many cubes are an error also on the way to fewer, or to none.
func TestTooManyCubesOnTheWay(t *testing.T) {
	list := append(wide(128), api.Rule{Priority: 7, Match: threebits.Cube("xxx")}, api.Rule{Priority: 6, Match: threebits.Cube("xxx")})
	if p, e := Missed(list); e != api.ErrCubes || len(p) != 0 {
		t.Error(p, e)
	}
	for n, want := range []api.Errno{api.OK, api.OK, api.ErrCubes, api.ErrCubes} {
		if p, e := Seen(list, n); e != want || len(p) != 1 && e == api.OK || len(p) != 0 && e != api.OK {
			t.Error(n, p, e)
		}
	}
	if idle, e := Idle(list); e != api.ErrCubes || len(idle) != 0 {
		t.Error(idle, e)
	}
}

// Whether there are too many hangs on the order, too: behind a rule for all headers there are none left to cut.
func TestTooManyCubesInAnotherOrder(t *testing.T) {
	list := append(wide(128), api.Rule{Priority: 10}, api.Rule{Priority: 2})
	if p, e := Missed(list); e != api.OK || len(p) != 0 {
		t.Error(p, e)
	}
	if idle, e := Idle(list); e != api.OK || !slices.Equal(idle, []int{0, 1, 3}) {
		t.Error(idle, e)
	}
}

// A rule that is idle in front of one with an error is not told of, nor is what comes behind.
func TestIdleTellsNothingBesideAnError(t *testing.T) {
	list := append([]api.Rule{{Priority: 1, Match: wide(128)[0].Match}}, wide(128)...)
	if idle, e := Idle(list); e != api.OK || !slices.Equal(idle, []int{0}) {
		t.Error(idle, e)
	}
	if idle, e := Idle(append(list, api.Rule{}, list[0])); e != api.ErrCubes || idle != nil {
		t.Error(idle, e)
	}
}

// An unsound Match comes ahead of too many cubes.
func TestUnsoundAheadOfTooMany(t *testing.T) {
	list := append(wide(128), api.Rule{}, api.Rule{Match: threebits.Cube("vxx")})
	if _, e := Seen(list, 2); e != api.ErrForm {
		t.Error(e)
	}
	if _, e := Missed(list); e != api.ErrForm {
		t.Error(e)
	}
	if _, e := Idle(list); e != api.ErrForm {
		t.Error(e)
	}
}

// A list may have more rules than a pile may have cubes: the rules are taken one by one.
func TestLongLists(t *testing.T) {
	for _, c := range []struct{ length, priorities int }{{api.MaxCubes - 1, 5}, {api.MaxCubes, 5}, {api.MaxCubes + 1, 5}, {5 * api.MaxCubes, 1}} {
		length, list := c.length, long(c.length, c.priorities)
		places := triedByHand(list)
		got, e := Seen(list, length)
		if want := lessByHand(cube.All(), list, places[:length]); e != api.OK || !slices.Equal(got, want) {
			t.Errorf("Seen of %d: %x, %d", length, got, e)
		}
		if got, e := Seen(list, length/2); e != api.OK || !slices.Equal(got, []api.Cube{numberCube(length / 2)}) {
			t.Errorf("Seen of %d: %x, %d", length, got, e)
		}
		got, e = Missed(list[:length])
		if want := lessByHand(cube.All(), list, places[:length]); e != api.OK || !slices.Equal(got, want) {
			t.Errorf("Missed of %d: %x, %d", length, got, e)
		}
	}
	list := append(long(api.MaxCubes, 2), api.Rule{Match: numberCube(5)})
	if idle, e := Idle(list); e != api.OK || !slices.Equal(idle, []int{api.MaxCubes + 1}) {
		t.Error(idle, e)
	}
}

// Rules of equal priority keep the order of the list in lists so long that a sort which is not stable would show: of each number and priority, the first rule is the one that is tried.
func TestTiesInLongLists(t *testing.T) {
	const numbers = 7
	for _, length := range []int{20, api.MaxRules, 300} {
		var list []api.Rule
		for n := range length {
			list = append(list, api.Rule{Priority: n * 7919 % 3, Match: numberCube(n % numbers)})
		}
		busy := map[int]int{}
		for h := range numbers {
			n, _ := findByHand(list, numberCube(h).Value)
			busy[n] = h
		}
		var want []int
		for n := range list {
			h, ok := busy[n]
			if !ok {
				want = append(want, n)
			}
			if p, e := Seen(list, n); e != api.OK || ok && !slices.Equal(p, []api.Cube{numberCube(h)}) || !ok && len(p) != 0 {
				t.Errorf("Seen of %d of %d: %x, %d", n, length, p, e)
			}
		}
		if got, e := Idle(list); e != api.OK || !slices.Equal(got, want) {
			t.Errorf("Idle of %d: %v, %d", length, got, e)
		}
	}
}

// somePorts are a Link, an Edge, and one that is unused.
func somePorts() []api.Port {
	return []api.Port{{Kind: api.Link, Peer: 1, Cost: 3}, {Kind: api.Edge, Tenant: 1}, {}}
}

func goingTo(table int) api.Rule { return api.Rule{Do: api.Do{Kind: api.Goto, Table: table}} }

// drops are tables with these numbers of sound rules.
func drops(counts ...int) [][]api.Rule {
	var out [][]api.Rule
	for _, n := range counts {
		out = append(out, slices.Repeat([]api.Rule{smallRule(1, "0xx")}, n))
	}
	return out
}

func TestSoundOfSizes(t *testing.T) {
	for _, c := range []struct {
		counts []int
		want   api.Errno
	}{
		{nil, api.ErrRange},
		{[]int{0}, api.OK},
		{[]int{0, 0}, api.OK},
		{[]int{0, 0, 0}, api.OK},
		{[]int{0, 0, 0, 0}, api.ErrRange},
		{[]int{1, 1, 1, 1, 1}, api.ErrRange},
		{make([]int, 100), api.ErrRange},
		{[]int{95}, api.OK},
		{[]int{96}, api.OK},
		{[]int{97}, api.ErrRules},
		{[]int{96, 0, 0}, api.OK},
		{[]int{0, 0, 96}, api.OK},
		{[]int{32, 32, 32}, api.OK},
		{[]int{32, 32, 33}, api.ErrRules},
		{[]int{33, 32, 32}, api.ErrRules},
		{[]int{48, 49}, api.ErrRules},
		{[]int{0, 97, 0}, api.ErrRules},
		{[]int{96, 96, 96}, api.ErrRules},
		{[]int{1, 97, 0, 0}, api.ErrRange},
		{[]int{100000}, api.ErrRules},
	} {
		if e := Sound(drops(c.counts...), somePorts()); e != c.want {
			t.Errorf("tables of %v rules: %d, not %d", c.counts, e, c.want)
		}
	}
	if e := Sound([][]api.Rule{}, nil); e != api.ErrRange {
		t.Error(e)
	}
}

func TestSoundOfRules(t *testing.T) {
	for name, c := range map[string]struct {
		do   api.Do
		want api.Errno
	}{
		"drop":                    {api.Do{Kind: api.Drop}, api.OK},
		"drop with a port":        {api.Do{Kind: api.Drop, Port: 1}, api.ErrForm},
		"drop with a table":       {api.Do{Kind: api.Drop, Table: 1}, api.ErrForm},
		"deliver to an edge":      {api.Do{Kind: api.Deliver, Port: 1}, api.OK},
		"deliver to a link":       {api.Do{Kind: api.Deliver, Port: 0}, api.ErrForm},
		"deliver to no port":      {api.Do{Kind: api.Deliver, Port: 3}, api.ErrForm},
		"deliver with a table":    {api.Do{Kind: api.Deliver, Port: 1, Table: 1}, api.ErrForm},
		"forward to a link":       {api.Do{Kind: api.Forward, Port: 0}, api.OK},
		"forward to an edge":      {api.Do{Kind: api.Forward, Port: 1}, api.ErrForm},
		"forward below the ports": {api.Do{Kind: api.Forward, Port: -1}, api.ErrForm},
		"forward to unused":       {api.Do{Kind: api.Forward, Port: 2}, api.ErrForm},
		"goto with a port":        {api.Do{Kind: api.Goto, Port: 1, Table: 2}, api.ErrForm},
		"no kind":                 {api.Do{}, api.ErrForm},
		"a kind too far":          {api.Do{Kind: 5}, api.ErrForm},
		"sets bits":               {api.Do{Kind: api.Drop, Set: threebits.Cube("01x")}, api.OK},
		"sets bits unsoundly":     {api.Do{Kind: api.Drop, Set: threebits.Cube("01v")}, api.ErrForm},
	} {
		for table := range 3 {
			for place := range 3 {
				tables := drops(2, 2, 2)
				tables[table] = slices.Insert(tables[table], place, api.Rule{Do: c.do})
				if e := Sound(tables, somePorts()); e != c.want {
					t.Errorf("%s, at %d of table %d: %d, not %d", name, place, table, e, c.want)
				}
			}
		}
	}
}

func TestSoundOfPrioritiesAndMatches(t *testing.T) {
	for table := range 3 {
		for _, c := range []struct {
			r    api.Rule
			want api.Errno
		}{
			{smallRule(0, "x01"), api.OK},
			{smallRule(1<<20, "x01"), api.OK},
			{smallRule(1<<20+1, "x01"), api.ErrForm},
			{smallRule(-1, "x01"), api.ErrForm},
			{smallRule(math.MinInt, "x01"), api.ErrForm},
			{smallRule(math.MaxInt, "x01"), api.ErrForm},
			{smallRule(0, "v01"), api.ErrForm},
			{smallRule(0, "x0v"), api.ErrForm},
		} {
			tables := drops(1, 1, 1)
			tables[table] = append(tables[table], c.r)
			if e := Sound(tables, nil); e != c.want {
				t.Errorf("%v in table %d: %d, not %d", c.r, table, e, c.want)
			}
		}
	}
}

// A Goto goes from each table to each number, of one, two and three tables.
func TestSoundOfGoto(t *testing.T) {
	for count := 1; count <= api.MaxTables; count++ {
		for from := range count {
			for _, to := range []int{math.MinInt, -1, 0, 1, 2, 3, 4, math.MaxInt} {
				tables := drops(make([]int, count)...)
				tables[from] = []api.Rule{goingTo(to)}
				want := api.ErrForm
				if from < to && to < count {
					want = api.OK
				}
				if e := Sound(tables, somePorts()); e != want {
					t.Errorf("from %d to %d of %d tables: %d, not %d", from, to, count, e, want)
				}
			}
		}
	}
}

func TestSoundWithoutPorts(t *testing.T) {
	for _, ports := range [][]api.Port{nil, {}, somePorts()[:0]} {
		if e := Sound([][]api.Rule{{smallRule(1, "0xx"), goingTo(1)}, nil}, ports); e != api.OK {
			t.Error(e)
		}
		for _, kind := range []int{api.Deliver, api.Forward} {
			for _, port := range []int{-1, 0, 1} {
				if e := Sound([][]api.Rule{{{Do: api.Do{Kind: kind, Port: port}}}}, ports); e != api.ErrForm {
					t.Error(kind, port, e)
				}
			}
		}
	}
}

// The number of tables comes first, then that of rules, then what each rule is.
func TestSoundOrderOfErrors(t *testing.T) {
	bad := make([]api.Rule, api.MaxRules+1)
	for _, c := range []struct {
		tables [][]api.Rule
		want   api.Errno
	}{
		{[][]api.Rule{bad, nil, nil, nil}, api.ErrRange},
		{[][]api.Rule{bad, nil, nil}, api.ErrRules},
		{[][]api.Rule{bad[:1], nil, bad[1:]}, api.ErrRules},
		{[][]api.Rule{bad[1:], nil, nil}, api.ErrForm},
		{[][]api.Rule{{goingTo(3)}, nil, nil, nil}, api.ErrRange},
	} {
		if e := Sound(c.tables, somePorts()); e != c.want {
			t.Errorf("%d, not %d", e, c.want)
		}
	}
}

func TestArgumentsAreNotChanged(t *testing.T) {
	backing := append(long(10, 3), wide(20)...)
	before, ports := slices.Clone(backing), somePorts()
	list := backing[2:11]
	tables := [][]api.Rule{list, backing[:1], {goingTo(1)}}
	kept := []int{len(tables[0]), len(tables[1]), len(tables[2])}
	for n := range list {
		Find(list, api.Head{Lo: uint64(n)})
		Seen(list, n)
	}
	Missed(list)
	Idle(list)
	Sound(tables[:2], ports[:1])
	if !slices.Equal(backing, before) || !slices.Equal(ports, somePorts()) {
		t.Error("an argument or its spare capacity was changed")
	}
	if !slices.Equal(kept, []int{len(tables[0]), len(tables[1]), len(tables[2])}) || tables[2][0] != goingTo(1) {
		t.Error("the list of tables was changed")
	}
}

// spoil writes all over a result, its spare capacity too.
func spoil[T any](list []T, with T) {
	whole := list[:cap(list)]
	for n := range whole {
		whole[n] = with
	}
}

func TestResultsShareNoMemory(t *testing.T) {
	list := []api.Rule{smallRule(1, "11x"), smallRule(1, "x11"), smallRule(0, "xxx"), smallRule(0, "111")}
	before := slices.Clone(list)
	for name, ask := range map[string]func() ([]api.Cube, api.Errno){
		"Seen of the first": func() ([]api.Cube, api.Errno) { return Seen(list, 0) },
		"Seen of the last":  func() ([]api.Cube, api.Errno) { return Seen(list, 2) },
		"Missed":            func() ([]api.Cube, api.Errno) { return Missed(list[:2]) },
		"Missed of nothing": func() ([]api.Cube, api.Errno) { return Missed(list[:0]) },
	} {
		first, _ := ask()
		second, _ := ask()
		want := slices.Clone(first)
		spoil(first, threebits.Cube("000"))
		third, _ := ask()
		if !slices.Equal(second, want) || !slices.Equal(third, want) {
			t.Errorf("%s: %x and %x, want %x", name, second, third, want)
		}
	}
	first, _ := Idle(list)
	second, _ := Idle(list)
	spoil(first, -1)
	if !slices.Equal(second, []int{3}) {
		t.Error("Idle:", second)
	}
	if !slices.Equal(list, before) {
		t.Error("a result shares memory with the argument")
	}
}
