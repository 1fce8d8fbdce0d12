package pile

import (
	"math"
	"slices"
	"testing"

	"customhouse/api"
	"customhouse/cube"
	"customhouse/head"
	"customhouse/threebits"
)

const all = math.MaxUint64

// pilesOf are all lists of at most n of the cubes.
func pilesOf(cubes []api.Cube, n int) [][]api.Cube {
	out := [][]api.Cube{nil}
	if n == 0 {
		return out
	}
	for _, rest := range pilesOf(cubes, n-1) {
		for _, c := range cubes {
			out = append(out, append([]api.Cube{c}, rest...))
		}
	}
	return out
}

// isIn tells bit by bit whether a header is in a cube.
func isIn(c api.Cube, h api.Head) bool {
	for n := range 128 {
		if head.Bit(c.Care, n) && head.Bit(c.Value, n) != head.Bit(h, n) {
			return false
		}
	}
	return true
}

// headsOf are the small headers of a cube, as a set of bits. A cube that is not sound has none.
func headsOf(c api.Cube) uint8 {
	var set uint8
	for n := range uint64(threebits.Heads) {
		if cube.Sound(c) && isIn(c, threebits.Head(n)) {
			set |= 1 << n
		}
	}
	return set
}

func headsOfPile(p []api.Cube) uint8 {
	var set uint8
	for _, c := range p {
		set |= headsOf(c)
	}
	return set
}

// leanByHand is Lean as the chapter tells it, of small cubes: each one is held against all others.
func leanByHand(p []api.Cube) []api.Cube {
	sets := make([]uint8, len(p))
	for i, c := range p {
		sets[i] = headsOf(c)
	}
	var out []api.Cube
	for i, c := range p {
		remains := sets[i] != 0
		for j := range p {
			if i != j && sets[i]&^sets[j] == 0 && (sets[i] != sets[j] || j < i) {
				remains = false
			}
		}
		if remains {
			out = append(out, c)
		}
	}
	return out
}

// numbered are disjoint cubes of one number each, from a number on, in the lowest ten bits.
func numbered(from, count int) []api.Cube {
	var p []api.Cube
	for n := range count {
		p = append(p, api.Cube{Value: api.Head{Lo: uint64(from + n)}, Care: api.Head{Lo: 1<<10 - 1}})
	}
	return p
}

func unsound() []api.Cube {
	return []api.Cube{
		{Value: api.Head{Lo: 1}},
		{Value: api.Head{Hi: 1 << 63}},
		{Value: api.Head{Lo: 3}, Care: api.Head{Lo: 1}},
		{Value: api.Head{Hi: 1}, Care: api.Head{Lo: 1}},
		{Value: api.Head{Hi: all, Lo: all}, Care: api.Head{Hi: all, Lo: all - 1}},
	}
}

func TestSound(t *testing.T) {
	for _, p := range [][]api.Cube{nil, {}, {cube.All()}, {cube.All(), cube.All()}, threebits.All("01x"), numbered(0, api.MaxCubes)} {
		if !Sound(p) {
			t.Errorf("%d cubes are not sound", len(p))
		}
	}
}

func TestSoundRefusesTooMany(t *testing.T) {
	for _, n := range []int{api.MaxCubes + 1, api.MaxCubes + 2, 1000} {
		if Sound(numbered(0, n)) || Sound(slices.Repeat([]api.Cube{cube.All()}, n)) {
			t.Errorf("%d cubes are sound", n)
		}
	}
}

func TestSoundRefusesUnsoundCubes(t *testing.T) {
	for _, bad := range unsound() {
		for n := range 5 {
			if p := slices.Insert(numbered(0, 4), n, bad); Sound(p) {
				t.Errorf("%x at %d is sound", bad, n)
			}
		}
		if Sound([]api.Cube{bad}) {
			t.Errorf("%x is sound", bad)
		}
	}
}

func TestHasOfEveryTwo(t *testing.T) {
	for _, p := range pilesOf(threebits.All("01xv"), 2) {
		set := headsOfPile(p)
		for n := range uint64(threebits.Heads) {
			if got, want := Has(p, threebits.Head(n)), set>>n&1 == 1; got != want {
				t.Fatalf("Has(%x, %x) = %t", p, threebits.Head(n), got)
			}
		}
	}
}

func TestHasWrittenOut(t *testing.T) {
	p := threebits.Cubes("0x1", "10x")
	for n, want := range []bool{false, true, false, true, true, true, false, false} {
		if got := Has(p, threebits.Head(uint64(n))); got != want {
			t.Errorf("Has of %03b = %t", n, got)
		}
	}
	if Has(nil, api.Head{}) || Has([]api.Cube{}, api.Head{}) {
		t.Error("a pile without cubes has a header")
	}
	many := numbered(0, 1000)
	if !Has(many, api.Head{Hi: all, Lo: 999}) || Has(many, api.Head{Lo: 1000}) {
		t.Error("a pile of 1000 cubes")
	}
}

func TestPick(t *testing.T) {
	for _, p := range pilesOf(threebits.All("01xv"), 2) {
		var want api.Head
		there := false
		for _, c := range slices.Backward(p) {
			if headsOf(c) != 0 {
				want, there = c.Value, true
			}
		}
		if got, ok := Pick(p); got != want || ok != there {
			t.Fatalf("Pick(%x) = %x, %t", p, got, ok)
		}
	}
}

func TestPickWrittenOut(t *testing.T) {
	if h, ok := Pick(threebits.Cubes("vxx", "x10", "111")); h != threebits.Cube("010").Value || !ok {
		t.Error(h, ok)
	}
	if h, ok := Pick([]api.Cube{cube.All()}); h != (api.Head{}) || !ok {
		t.Error("every header:", h, ok)
	}
	if h, ok := Pick(nil); h != (api.Head{}) || ok {
		t.Error("no cubes:", h, ok)
	}
	if h, ok := Pick(unsound()); h != (api.Head{}) || ok {
		t.Error("no sound cubes:", h, ok)
	}
	if h, ok := Pick(append(slices.Repeat(unsound(), 100), numbered(7, 1)...)); h != (api.Head{Lo: 7}) || !ok {
		t.Error("more cubes than a pile may have:", h, ok)
	}
}

func TestLeanOfEveryThree(t *testing.T) {
	for _, p := range append(pilesOf(threebits.All("01x"), 3), pilesOf(threebits.All("01xv"), 2)...) {
		if got, want := Lean(p), leanByHand(p); !slices.Equal(got, want) {
			t.Fatalf("Lean(%x) = %x, want %x", p, got, want)
		}
	}
}

// Long lists of cubes with two or three fixed bits, each cube twice, in many orders.
func TestLeanOfLongLists(t *testing.T) {
	narrow := slices.DeleteFunc(threebits.All("01xv"), func(c api.Cube) bool { return head.Ones(c.Care) < 2 })
	for step := 1; step < len(narrow); step++ {
		var p []api.Cube
		for n := range 2 * len(narrow) {
			p = append(p, narrow[n*step%len(narrow)])
		}
		if got, want := Lean(p), leanByHand(p); !slices.Equal(got, want) {
			t.Errorf("step %d: %x, want %x", step, got, want)
		}
	}
}

func TestLeanWrittenOut(t *testing.T) {
	for _, c := range []struct {
		name    string
		p, want []api.Cube
	}{
		{"nil", nil, nil},
		{"empty", []api.Cube{}, nil},
		{"one", threebits.Cubes("01x"), threebits.Cubes("01x")},
		{"the first one of equal cubes remains", threebits.Cubes("0xx", "11x", "0xx", "11x"), threebits.Cubes("0xx", "11x")},
		{"a later cube swallows earlier ones", threebits.Cubes("000", "11x", "01x", "0xx"), threebits.Cubes("11x", "0xx")},
		{"an earlier cube swallows later ones", threebits.Cubes("0xx", "000", "11x", "01x"), threebits.Cubes("0xx", "11x")},
		{"a chain", threebits.Cubes("000", "00x", "0xx", "xxx", "0xx", "00x"), threebits.Cubes("xxx")},
		{"the order is kept, whatever the width", threebits.Cubes("111", "0xx", "110", "10x"), threebits.Cubes("111", "0xx", "110", "10x")},
		{"overlap is no subset", threebits.Cubes("0xx", "x1x", "xx1"), threebits.Cubes("0xx", "x1x", "xx1")},
		{"a subset of two together remains", threebits.Cubes("00x", "01x", "0x1"), threebits.Cubes("00x", "01x", "0x1")},
		{"unsound cubes go, and swallow nothing", threebits.Cubes("vxx", "000", "vvv", "xxv", "1xx", "v00"), threebits.Cubes("000", "1xx")},
		{"unsound cubes alone", unsound(), nil},
	} {
		if got := Lean(c.p); !slices.Equal(got, c.want) {
			t.Errorf("%s: %x, want %x", c.name, got, c.want)
		}
	}
}

// Only the results of Join, Meet and Less are limited.
func TestLeanHasNoLimit(t *testing.T) {
	p := numbered(0, 1000)
	if got := Lean(append(p, p...)); !slices.Equal(got, p) {
		t.Errorf("%d cubes of 1000", len(got))
	}
}

// pairs are piles of at most two small cubes each: all of the first, and some of the second.
func pairs() [][2][]api.Cube {
	piles := pilesOf(threebits.All("01x"), 2)
	var out [][2][]api.Cube
	for _, a := range piles {
		for n := 0; n < len(piles); n += 11 {
			out = append(out, [2][]api.Cube{a, piles[n]})
		}
	}
	return append(out, [2][]api.Cube{threebits.All("01"), threebits.Cubes("x1x", "1xx")}, [2][]api.Cube{threebits.Cubes("xxx"), threebits.All("01")})
}

func TestJoinOfPairs(t *testing.T) {
	for _, p := range pairs() {
		got, e := Join(p[0], p[1])
		if want := leanByHand(slices.Concat(p[0], p[1])); e != api.OK || !slices.Equal(got, want) {
			t.Fatalf("Join(%x) = %x, %d, want %x", p, got, e, want)
		}
		if headsOfPile(got) != headsOfPile(p[0])|headsOfPile(p[1]) {
			t.Fatalf("Join(%x) = %x has other headers", p, got)
		}
	}
}

func TestMeetOfPairs(t *testing.T) {
	for _, p := range pairs() {
		var both []api.Cube
		for _, a := range p[0] {
			for _, b := range p[1] {
				if c, ok := cube.Meet(a, b); ok {
					both = append(both, c)
				}
			}
		}
		got, e := Meet(p[0], p[1])
		if want := leanByHand(both); e != api.OK || !slices.Equal(got, want) {
			t.Fatalf("Meet(%x) = %x, %d, want %x", p, got, e, want)
		}
		if headsOfPile(got) != headsOfPile(p[0])&headsOfPile(p[1]) {
			t.Fatalf("Meet(%x) = %x has other headers", p, got)
		}
	}
}

func TestLessAndWithinOfPairs(t *testing.T) {
	for _, p := range pairs() {
		want := p[0]
		for _, b := range p[1] {
			var left []api.Cube
			for _, a := range want {
				left = append(left, cube.Less(a, b)...)
			}
			want = leanByHand(left)
		}
		got, e := Less(p[0], p[1])
		if e != api.OK || !slices.Equal(got, want) {
			t.Fatalf("Less(%x) = %x, %d, want %x", p, got, e, want)
		}
		set := headsOfPile(p[0]) &^ headsOfPile(p[1])
		if headsOfPile(got) != set {
			t.Fatalf("Less(%x) = %x has other headers", p, got)
		}
		if in, e := Within(p[0], p[1]); in != (set == 0) || e != api.OK {
			t.Fatalf("Within(%x) = %t, %d", p, in, e)
		}
	}
}

func TestJoinWrittenOut(t *testing.T) {
	for _, c := range []struct{ a, b, want []api.Cube }{
		{nil, nil, nil},
		{nil, threebits.Cubes("0xx"), threebits.Cubes("0xx")},
		{threebits.Cubes("0xx"), nil, threebits.Cubes("0xx")},
		{threebits.Cubes("111", "0xx"), threebits.Cubes("01x", "10x"), threebits.Cubes("111", "0xx", "10x")},
		{threebits.Cubes("000", "111"), threebits.Cubes("xx0", "000"), threebits.Cubes("111", "xx0")},
		{threebits.Cubes("00x", "00x"), threebits.Cubes("00x"), threebits.Cubes("00x")},
	} {
		if got, e := Join(c.a, c.b); !slices.Equal(got, c.want) || e != api.OK {
			t.Errorf("Join(%x, %x) = %x, %d", c.a, c.b, got, e)
		}
	}
}

func TestMeetWrittenOut(t *testing.T) {
	for _, c := range []struct{ a, b, want []api.Cube }{
		{nil, nil, nil},
		{nil, threebits.Cubes("0xx"), nil},
		{threebits.Cubes("0xx"), nil, nil},
		{threebits.Cubes("0xx"), threebits.Cubes("1xx"), nil},
		{threebits.Cubes("xxx"), threebits.Cubes("1xx", "x00"), threebits.Cubes("1xx", "x00")},
		{threebits.Cubes("0xx", "x1x"), threebits.Cubes("xx0", "1xx"), threebits.Cubes("0x0", "x10", "11x")},
		{threebits.Cubes("x1x", "0xx"), threebits.Cubes("1xx", "xx0"), threebits.Cubes("11x", "x10", "0x0")},
		{threebits.Cubes("00x", "0xx"), threebits.Cubes("xx1"), threebits.Cubes("0x1")},
	} {
		if got, e := Meet(c.a, c.b); !slices.Equal(got, c.want) || e != api.OK {
			t.Errorf("Meet(%x, %x) = %x, %d", c.a, c.b, got, e)
		}
	}
}

func TestLessWrittenOut(t *testing.T) {
	for _, c := range []struct {
		name       string
		a, b, want []api.Cube
	}{
		{"nothing of nothing", nil, nil, nil},
		{"something of nothing", nil, threebits.Cubes("xxx"), nil},
		{"all of it", threebits.Cubes("01x", "1xx"), threebits.Cubes("xxx"), nil},
		{"all of it by parts", threebits.Cubes("0x1"), threebits.Cubes("00x", "01x"), nil},
		{"nothing in common", threebits.Cubes("01x", "001"), threebits.Cubes("1xx"), threebits.Cubes("01x", "001")},
		{"two in order", threebits.Cubes("xxx"), threebits.Cubes("11x", "x11"), threebits.Cubes("00x", "010", "10x")},
		{"two in the other order", threebits.Cubes("xxx"), threebits.Cubes("x11", "11x"), threebits.Cubes("x0x", "010")},
		{"differences that are in others", threebits.Cubes("xx1", "0x1"), threebits.Cubes("111"), threebits.Cubes("0x1", "101")},
	} {
		if got, e := Less(c.a, c.b); !slices.Equal(got, c.want) || e != api.OK {
			t.Errorf("%s: %x, %d, want %x", c.name, got, e, c.want)
		}
	}
}

// Without a cube of b, no Lean is taken: a stays as it is.
func TestLessOfNothingIsTheSame(t *testing.T) {
	for _, a := range [][]api.Cube{threebits.Cubes("00x", "0xx", "00x"), slices.Repeat(threebits.Cubes("000"), api.MaxCubes)} {
		for _, b := range [][]api.Cube{nil, {}} {
			if got, e := Less(a, b); !slices.Equal(got, a) || e != api.OK {
				t.Errorf("Less of %d cubes and nothing: %d cubes, %d", len(a), len(got), e)
			}
			if in, e := Within(a, b); in || e != api.OK {
				t.Error("Within nothing:", in, e)
			}
		}
	}
	if got, e := Less(threebits.Cubes("00x", "0xx", "00x"), threebits.Cubes("111")); !slices.Equal(got, threebits.Cubes("0xx")) || e != api.OK {
		t.Error(got, e)
	}
}

func TestWithinWrittenOut(t *testing.T) {
	for _, c := range []struct {
		a, b []api.Cube
		want bool
	}{
		{nil, nil, true},
		{nil, threebits.Cubes("0xx"), true},
		{threebits.Cubes("000"), nil, false},
		{threebits.Cubes("xxx"), threebits.Cubes("0xx", "1xx"), true},
		{threebits.Cubes("xxx"), threebits.Cubes("0xx", "1x1", "11x"), false},
		{threebits.Cubes("00x", "11x"), threebits.Cubes("x0x", "x1x"), true},
		{threebits.Cubes("00x", "111"), threebits.Cubes("x0x"), false},
	} {
		if got, e := Within(c.a, c.b); got != c.want || e != api.OK {
			t.Errorf("Within(%x, %x) = %t, %d", c.a, c.b, got, e)
		}
	}
}

// operations are the functions of two piles. What Within answers is told as a pile too: a cube where it is true.
func operations() map[string]func(a, b []api.Cube) ([]api.Cube, api.Errno) {
	return map[string]func(a, b []api.Cube) ([]api.Cube, api.Errno){
		"Join": Join,
		"Meet": Meet,
		"Less": Less,
		"Within": func(a, b []api.Cube) ([]api.Cube, api.Errno) {
			in, e := Within(a, b)
			if in {
				return []api.Cube{cube.All()}, e
			}
			return nil, e
		},
	}
}

func TestUnsoundPilesAreRefused(t *testing.T) {
	bad := [][]api.Cube{
		numbered(0, api.MaxCubes+1),
		slices.Repeat([]api.Cube{cube.All()}, api.MaxCubes+1),
		append(numbered(0, 3), unsound()[0]),
	}
	for _, c := range unsound() {
		bad = append(bad, []api.Cube{c}, []api.Cube{cube.All(), c}, []api.Cube{c, cube.All()})
	}
	good := [][]api.Cube{nil, {}, {cube.All()}, numbered(0, 3), numbered(500, api.MaxCubes)}
	for name, do := range operations() {
		refused := func(a, b []api.Cube) {
			if got, e := do(a, b); len(got) != 0 || e != api.ErrForm {
				t.Errorf("%s of %d and %d cubes: %x, %d", name, len(a), len(b), got, e)
			}
		}
		for _, p := range bad {
			refused(p, p)
			for _, q := range good {
				refused(p, q)
				refused(q, p)
			}
		}
	}
}

// expect holds what a call answers for piles near the limit against the number of cubes that it is to have, or ErrCubes.
func expect(t *testing.T, name string, count int, want api.Errno, got []api.Cube, e api.Errno) {
	t.Helper()
	if len(got) != count || e != want {
		t.Errorf("%s: %d cubes, %d, want %d, %d", name, len(got), e, count, want)
	}
}

func TestJoinUpToTheLimit(t *testing.T) {
	for _, c := range []struct {
		name  string
		a, b  []api.Cube
		count int
		want  api.Errno
	}{
		{"at the limit", numbered(0, 100), numbered(100, 100), api.MaxCubes, api.OK},
		{"one too many", numbered(0, 100), numbered(100, 101), 0, api.ErrCubes},
		{"full, and one more", numbered(0, api.MaxCubes), numbered(api.MaxCubes, 1), 0, api.ErrCubes},
		{"twice as many", numbered(0, api.MaxCubes), numbered(api.MaxCubes, api.MaxCubes), 0, api.ErrCubes},
		{"the same twice", numbered(0, api.MaxCubes), numbered(0, api.MaxCubes), api.MaxCubes, api.OK},
		{"all but one in the last", numbered(0, api.MaxCubes), append(numbered(200, 199), cube.All()), 1, api.OK},
	} {
		got, e := Join(c.a, c.b)
		expect(t, c.name, c.count, c.want, got, e)
	}
}

// high are disjoint cubes as those of numbered, in bits that those leave open.
func high(count int) []api.Cube {
	p := numbered(0, count)
	for i, c := range p {
		p[i] = api.Cube{Value: api.Head{Hi: c.Value.Lo}, Care: api.Head{Hi: c.Care.Lo}}
	}
	return p
}

func TestMeetUpToTheLimit(t *testing.T) {
	for _, c := range []struct {
		name  string
		a, b  []api.Cube
		count int
		want  api.Errno
	}{
		{"at the limit", numbered(0, 20), high(10), api.MaxCubes, api.OK},
		{"one too many", numbered(0, 67), high(3), 0, api.ErrCubes},
		{"as many as can be", numbered(0, api.MaxCubes), high(api.MaxCubes), 0, api.ErrCubes},
		{"the same twice", numbered(0, api.MaxCubes), numbered(0, api.MaxCubes), api.MaxCubes, api.OK},
		{"all but the last in others", numbered(0, api.MaxCubes), append(high(199), cube.All()), api.MaxCubes, api.OK},
	} {
		got, e := Meet(c.a, c.b)
		expect(t, c.name, c.count, c.want, got, e)
	}
}

// half is the headers with this highest bit.
func half(highest uint64) api.Cube {
	return api.Cube{Value: api.Head{Hi: highest << 63}, Care: api.Head{Hi: 1 << 63}}
}

// corner is those of a half whose next bits are 0. The half without its corner is one cube for each of these bits.
func corner(highest uint64, bits int) api.Cube {
	care, _ := head.Mask(127-bits, bits+1)
	return api.Cube{Value: api.Head{Hi: highest << 63}, Care: care}
}

func TestLessUpToTheLimit(t *testing.T) {
	halves := []api.Cube{half(0), half(1)}
	for _, c := range []struct {
		name  string
		b     []api.Cube
		count int
		want  api.Errno
	}{
		{"one corner", []api.Cube{corner(0, 127)}, 128, api.OK},
		{"at the limit", []api.Cube{corner(0, 100), corner(1, 100)}, api.MaxCubes, api.OK},
		{"one too many", []api.Cube{corner(0, 100), corner(1, 101)}, 0, api.ErrCubes},
		{"at the limit on the way", []api.Cube{corner(0, 100), corner(1, 100), cube.All()}, 0, api.OK},
		{"one too many on the way", []api.Cube{corner(0, 100), corner(1, 101), cube.All()}, 0, api.ErrCubes},
		{"nothing is left ahead of that", []api.Cube{cube.All(), corner(0, 100), corner(1, 101)}, 0, api.OK},
		{"half is left ahead of that", []api.Cube{corner(0, 100), half(0), corner(1, 101)}, 101, api.OK},
	} {
		got, e := Less(halves, c.b)
		expect(t, c.name, c.count, c.want, got, e)
		if in, e := Within(halves, c.b); in != (c.count == 0 && c.want == api.OK) || e != c.want {
			t.Errorf("Within, %s: %t, %d", c.name, in, e)
		}
	}
}

// The differences are 221 cubes, but those of the second cube are in those of the first one.
func TestLessCountsTheLean(t *testing.T) {
	lowest := api.Head{Lo: 1}
	even := half(0)
	even.Care = head.Or(even.Care, lowest)
	evenCorner := corner(0, 110)
	evenCorner.Care = head.Or(evenCorner.Care, lowest)
	got, e := Less([]api.Cube{half(0), even}, []api.Cube{evenCorner})
	expect(t, "a half and a part of it", 111, api.OK, got, e)
}

// spare is the pile with spare capacity behind it, filled with a cube that is to stay.
func spare(p []api.Cube) []api.Cube {
	out := append(slices.Clone(p), slices.Repeat(threebits.Cubes("v0v"), 5)...)
	return out[:len(p)]
}

func TestArgumentsStayAndAnswersAreNew(t *testing.T) {
	ops := operations()
	ops["Lean"] = func(a, b []api.Cube) ([]api.Cube, api.Errno) { return Lean(a), api.OK }
	for name, do := range ops {
		for _, p := range [][2][]api.Cube{
			{threebits.Cubes("0xx", "11x"), threebits.Cubes("100", "x1x")},
			{threebits.Cubes("00x", "0xx", "11x"), nil},
			{nil, threebits.Cubes("00x", "0xx", "11x")},
			{threebits.Cubes("0xx"), threebits.Cubes("xxx")},
		} {
			a, b := spare(p[0]), spare(p[1])
			first, _ := do(a, b)
			want := slices.Clone(first)
			for i := range first[:cap(first)] {
				first[:cap(first)][i] = threebits.Cube("vvv")
			}
			if !slices.Equal(a[:cap(a)], spare(p[0])[:cap(a)]) || !slices.Equal(b[:cap(b)], spare(p[1])[:cap(b)]) {
				t.Errorf("%s(%x) changed its arguments, or its answer shares their memory", name, p)
			}
			if second, _ := do(a, b); !slices.Equal(second, want) {
				t.Errorf("%s(%x) = %x after a change of an earlier answer, want %x", name, p, second, want)
			}
		}
	}
}
