package atoms

import (
	"math"
	"math/rand"
	"slices"
	"testing"

	"customhouse/api"
	"customhouse/cube"
	"customhouse/head"
	"customhouse/ids"
	"customhouse/pile"
	"customhouse/threebits"
)

// listsOf are all lists of at most n of the cubes.
func listsOf(cubes []api.Cube, n int) [][]api.Cube {
	out := [][]api.Cube{nil}
	if n == 0 {
		return out
	}
	for _, rest := range listsOf(cubes, n-1) {
		for _, c := range cubes {
			out = append(out, append([]api.Cube{c}, rest...))
		}
	}
	return out
}

// part is an atom of a pile of small cubes, with the Pick of it.
func part(patterns string, numbers ...int) api.Atom {
	h, _ := pile.Pick(threebits.Cubes(patterns))
	return api.Atom{Ids: numbers, Head: h, Pile: threebits.Cubes(patterns)}
}

// headed is an atom with another head.
func headed(a api.Atom, h api.Head) api.Atom {
	a.Head = h
	return a
}

func same(a, b []api.Atom) bool {
	return slices.EqualFunc(a, b, func(x, y api.Atom) bool {
		return slices.Equal(x.Ids, y.Ids) && x.Head == y.Head && slices.Equal(x.Pile, y.Pile)
	})
}

// cloned is a list whose memory is all its own.
func cloned(list []api.Atom) []api.Atom {
	out := slices.Clone(list)
	for n, a := range out {
		out[n].Ids, out[n].Pile = slices.Clone(a.Ids), slices.Clone(a.Pile)
	}
	return out
}

// splitByHand splits atoms by a cube as the chapter tells it, and tells the first error of a pile.
func splitByHand(list []api.Atom, id int, pred api.Cube) ([]api.Atom, api.Errno) {
	var out []api.Atom
	add := func(p []api.Cube, numbers []int) {
		if h, ok := pile.Pick(p); ok {
			out = append(out, api.Atom{Ids: numbers, Head: h, Pile: p})
		}
	}
	for _, a := range list {
		inside, e := pile.Meet(a.Pile, []api.Cube{pred})
		if e != api.OK {
			return nil, e
		}
		outside, e := pile.Less(a.Pile, []api.Cube{pred})
		if e != api.OK {
			return nil, e
		}
		add(inside, ids.Make(append(slices.Clone(a.Ids), id)...))
		add(outside, ids.Make(a.Ids...))
	}
	return out, api.OK
}

// coarseByHand takes a number out of all atoms and merges them as the chapter tells it.
func coarseByHand(list []api.Atom, id int) []api.Atom {
	left := cloned(list)
	for n := range left {
		left[n].Ids = slices.DeleteFunc(ids.Make(left[n].Ids...), func(m int) bool { return m == id })
	}
	var out []api.Atom
	for n, a := range left {
		seen := slices.ContainsFunc(left[:n], func(b api.Atom) bool { return slices.Equal(a.Ids, b.Ids) })
		if seen {
			continue
		}
		for _, b := range left[n+1:] {
			if slices.Equal(a.Ids, b.Ids) {
				a.Pile = pile.Lean(append(slices.Clone(a.Pile), b.Pile...))
			}
		}
		out = append(out, a)
	}
	return out
}

// unsound are cubes with a bit of Value that Care does not have.
func unsound() []api.Cube {
	return append(threebits.Cubes("vxx xvx xxv 0v1 v11 vvv"), api.Cube{Value: api.Head{Lo: math.MaxUint64}, Care: api.Head{Lo: math.MaxUint64 - 1}})
}

// fixed is the headers whose bits from one on are those of a value.
func fixed(at, bits int, v uint64) api.Cube {
	care, _ := head.Mask(at, bits)
	if v == 0 {
		return api.Cube{Care: care}
	}
	value, _ := head.Put(api.Head{}, at, min(bits, 64), v)
	return api.Cube{Value: value, Care: care}
}

// one is the headers with a bit 1.
func one(n int) api.Cube { return fixed(n, 1, 1) }

// both is what two cubes have in common.
func both(a, b api.Cube) api.Cube {
	c, ok := cube.Meet(a, b)
	if !ok {
		panic("nothing in common")
	}
	return c
}

// ones are the headers with a bit 1, for some bits.
func ones(at, count int) []api.Cube {
	var out []api.Cube
	for n := range count {
		out = append(out, one(at+n))
	}
	return out
}

// numbered are atoms of a cube and a number each, that have nothing in common.
func numbered(count int) []api.Atom {
	var out []api.Atom
	for n := range count {
		c := fixed(0, 20, uint64(n))
		out = append(out, api.Atom{Ids: []int{n}, Head: c.Value, Pile: []api.Cube{c}})
	}
	return out
}

// rows are disjoint cubes of so many numbers from one on.
func rows(from, count int) []api.Cube {
	var out []api.Cube
	for n := range count {
		out = append(out, fixed(0, 20, uint64(from+n)))
	}
	return out
}

// checkParts holds atoms against the cubes, header by header: each is in one atom, whose numbers are those of the cubes that it is in.
func checkParts(t *testing.T, preds []api.Cube, list []api.Atom) {
	t.Helper()
	for n := range uint64(threebits.Heads) {
		h := threebits.Head(n)
		var in []int
		for id, c := range preds {
			if cube.Has(c, h) {
				in = append(in, id)
			}
		}
		var with []int
		for i, a := range list {
			if pile.Has(a.Pile, h) {
				with = append(with, i)
			}
		}
		if len(with) != 1 || !slices.Equal(list[with[0]].Ids, in) {
			t.Fatalf("%x: header %03b is in atoms %v of %v, not in one with %v", preds, n, with, list, in)
		}
		if i, ok := Find(list, h); !ok || i != with[0] {
			t.Fatalf("%x: Find of header %03b: %d, %t", preds, n, i, ok)
		}
	}
}

func TestSplitOfSmallLists(t *testing.T) {
	for _, preds := range listsOf(threebits.All("01x"), 3) {
		want := []api.Atom{part("xxx")}
		for id, c := range preds {
			want, _ = splitByHand(want, id, c)
		}
		got, e := Split(preds)
		if e != api.OK || !same(got, want) {
			t.Fatalf("Split(%x) = %v, %d, want %v", preds, got, e, want)
		}
		checkParts(t, preds, got)
	}
}

func TestSplitWrittenOut(t *testing.T) {
	for _, c := range []struct {
		name, preds string
		want        []api.Atom
	}{
		{"no cubes", "", []api.Atom{part("xxx")}},
		{"every header", "xxx", []api.Atom{part("xxx", 0)}},
		{"a bit", "1xx", []api.Atom{part("1xx", 0), part("0xx")}},
		{"a header", "101", []api.Atom{part("101", 0), part("0xx 11x 100")}},
		{"the same twice", "x1x x1x", []api.Atom{part("x1x", 0, 1), part("x0x")}},
		{"nothing in common", "11x 00x", []api.Atom{part("11x", 0), part("00x", 1), part("01x 10x")}},
		{"each in the one ahead", "1xx 11x 111", []api.Atom{part("111", 0, 1, 2), part("110", 0, 1), part("10x", 0), part("0xx")}},
		{"each in the one behind", "111 11x 1xx", []api.Atom{part("111", 0, 1, 2), part("110", 1, 2), part("10x", 2), part("0xx")}},
		{"across", "1xx x1x", []api.Atom{part("11x", 0, 1), part("10x", 0), part("01x", 1), part("00x")}},
		{"all together", "1xx 0xx", []api.Atom{part("1xx", 0), part("0xx", 1)}},
		{"every header, between others", "1xx xxx 0xx", []api.Atom{part("1xx", 0, 1), part("0xx", 1, 2)}},
		{"of a pile some cubes, and a part of one", "101 x11", []api.Atom{part("101", 0), part("011 111", 1), part("00x 010 110 100")}},
	} {
		got, e := Split(threebits.Cubes(c.preds))
		if e != api.OK || !same(got, c.want) {
			t.Errorf("%s: %v, %d, want %v", c.name, got, e, c.want)
		}
	}
}

func TestSplitOfNoCubes(t *testing.T) {
	for _, none := range [][]api.Cube{nil, {}} {
		got, e := Split(none)
		if e != api.OK || !same(got, []api.Atom{{Pile: []api.Cube{cube.All()}}}) {
			t.Error(got, e)
		}
	}
}

func TestSplitOfUnsoundCubes(t *testing.T) {
	for _, bad := range unsound() {
		for _, good := range [][]api.Cube{nil, threebits.Cubes("1xx"), threebits.Cubes("xxx 0x1 000"), ones(0, 20), slices.Repeat(threebits.Cubes("01x"), api.MaxPreds-1)} {
			for _, at := range []int{0, len(good) / 2, len(good)} {
				if got, e := Split(slices.Insert(slices.Clone(good), at, bad)); got != nil || e != api.ErrForm {
					t.Errorf("%x at %d of %d: %v, %d", bad, at, len(good)+1, got, e)
				}
			}
		}
	}
}

func TestSplitOfTooManyCubes(t *testing.T) {
	for _, c := range []api.Cube{cube.All(), threebits.Cube("101"), threebits.Cube("v01")} {
		for _, count := range []int{api.MaxPreds + 1, api.MaxPreds + 2, 2 * api.MaxPreds} {
			if got, e := Split(slices.Repeat([]api.Cube{c}, count)); got != nil || e != api.ErrFull {
				t.Errorf("%d times %x: %v, %d", count, c, got, e)
			}
		}
	}
	got, e := Split(slices.Repeat(threebits.Cubes("1xx"), api.MaxPreds))
	if e != api.OK || len(got) != 2 || len(got[0].Ids) != api.MaxPreds || !ids.Sound(got[0].Ids) || len(got[1].Ids) != 0 {
		t.Error("as many cubes as there may be:", got, e)
	}
}

// nearlyFull are cubes that make as many atoms as there may be: 512 of nine bits, of which 64, 16 and 8 are cut by a tenth bit.
func nearlyFull() []api.Cube {
	return append(ones(0, 9), both(one(9), fixed(6, 3, 0)), both(one(9), fixed(4, 5, 4)), both(one(9), fixed(3, 6, 10)))
}

func TestSplitUpToMaxAtoms(t *testing.T) {
	full := nearlyFull()
	for _, c := range []struct {
		name  string
		preds []api.Cube
		count int
		want  api.Errno
	}{
		{"nine bits", ones(0, 9), 512, api.OK},
		{"ten bits", ones(0, 10), 0, api.ErrAtoms},
		{"ten bits, and every header", append(ones(0, 10), cube.All()), 0, api.ErrAtoms},
		{"eight short", full[:11], 592, api.OK},
		{"all", full, api.MaxAtoms, api.OK},
		{"all, and again", append(full[:12:12], full...), api.MaxAtoms, api.OK},
		{"one too many", append(full[:12:12], both(one(9), fixed(0, 9, 511))), 0, api.ErrAtoms},
		{"one too many, and again", append(full[:12:12], both(one(9), fixed(0, 9, 511)), full[0]), 0, api.ErrAtoms},
	} {
		if got, e := Split(c.preds); len(got) != c.count || e != c.want {
			t.Errorf("%s: %d atoms, %d", c.name, len(got), e)
		}
	}
}

// corner is the headers with bit 127 as it is said, and some bits below it 0.
func corner(highest uint64, bits int) api.Cube {
	return both(fixed(127, 1, highest), fixed(127-bits, bits, 0))
}

// All but a corner is one cube with the other highest bit, and one for each bit of the corner: the first two corners of a row leave 200 cubes.
func TestSplitUpToMaxCubes(t *testing.T) {
	for _, c := range []struct {
		name  string
		preds []api.Cube
		count int
		want  api.Errno
	}{
		{"a corner", []api.Cube{corner(0, 127)}, 128, api.OK},
		{"all", []api.Cube{corner(0, 99), corner(1, 101)}, api.MaxCubes, api.OK},
		{"all, and once more", []api.Cube{corner(0, 99), corner(1, 101), corner(0, 99)}, api.MaxCubes, api.OK},
		{"all, and what is left of them", []api.Cube{corner(0, 99), corner(1, 101), cube.All(), one(126)}, api.MaxCubes - 2, api.OK},
		{"one too many", []api.Cube{corner(0, 99), corner(1, 102)}, 0, api.ErrCubes},
		{"one too many, and every header", []api.Cube{corner(0, 99), corner(1, 102), cube.All()}, 0, api.ErrCubes},
	} {
		got, e := Split(c.preds)
		largest := 0
		for _, a := range got {
			largest = max(largest, len(a.Pile))
		}
		if largest != c.count || e != c.want {
			t.Errorf("%s: %d cubes, %d", c.name, largest, e)
		}
	}
}

func TestSplitTellsTheFirstError(t *testing.T) {
	half := []api.Cube{one(127)}
	for n := range 9 {
		half = append(half, both(one(127), one(n)))
	}
	wide := both(fixed(127, 1, 0), fixed(20, 64, math.MaxUint64))
	wide = both(wide, fixed(84, 40, 1<<40-1))
	across := fixed(20, 107, 0)
	for _, c := range []struct {
		name  string
		preds []api.Cube
		want  api.Errno
	}{
		{"too many atoms, then too many cubes", append(ones(0, 10), corner(0, 99), corner(1, 102)), api.ErrAtoms},
		{"too many cubes, then too many atoms", append([]api.Cube{corner(0, 99), corner(1, 102)}, ones(0, 10)...), api.ErrCubes},
		{"too many atoms alone", append(half[:10:10], across), api.ErrAtoms},
		{"too many cubes of the last atom, by the same cube", append(half[:10:10], wide, across), api.ErrCubes},
	} {
		if got, e := Split(c.preds); got != nil || e != c.want {
			t.Errorf("%s: %d atoms, %d, want %d", c.name, len(got), e, c.want)
		}
	}
}

// randomCube is a cube of some bits anywhere in a header.
func randomCube(r *rand.Rand, bits int) api.Cube {
	c := cube.All()
	for range bits {
		bit := fixed(r.Intn(128), 1, 1)
		c.Care = head.Or(c.Care, bit.Care)
		if r.Intn(2) == 1 {
			c.Value = head.Or(c.Value, bit.Value)
		}
	}
	return cube.Make(c.Value, c.Care)
}

// near is a header that is in a cube, or just not.
func near(r *rand.Rand, c api.Cube) api.Head {
	h := cube.Set(api.Head{Hi: r.Uint64(), Lo: r.Uint64()}, c)
	if r.Intn(2) == 1 {
		h = head.Xor(h, fixed(r.Intn(128), 1, 1).Value)
	}
	return h
}

func TestRandomCubes(t *testing.T) {
	r := rand.New(rand.NewSource(11))
	for range 200 {
		var preds []api.Cube
		want, first := []api.Atom{{Pile: []api.Cube{cube.All()}}}, api.OK
		for id := range 1 + r.Intn(7) {
			preds = append(preds, randomCube(r, 1+r.Intn(3)))
			if first == api.OK {
				want, first = splitByHand(want, id, preds[id])
			}
		}
		got, e := Split(preds)
		if e != first || !same(got, want) {
			t.Fatalf("Split(%x) = %v, %d, want %v, %d", preds, got, e, want, first)
		}
		if e != api.OK {
			continue
		}
		for range 50 {
			h := near(r, preds[r.Intn(len(preds))])
			n, ok := Find(got, h)
			if !ok {
				t.Fatalf("%x: no atom has %x", preds, h)
			}
			for id, c := range preds {
				if in := slices.Contains(Of(got, id), n); in != cube.Has(c, h) || cube.Has(c, got[n].Head) != in {
					t.Fatalf("%x: atom %d, in which %x is, and cube %d: %t", preds, n, h, id, in)
				}
			}
		}
	}
}

func TestFindWrittenOut(t *testing.T) {
	list := []api.Atom{{Ids: []int{4}}, part("00x"), part("x0x 111"), part("1x1"), part("01x vvv")}
	for n, want := range []int{1, 1, 4, 4, 2, 2, -1, 2} {
		got, ok := Find(list, threebits.Head(uint64(n)))
		if ok != (want >= 0) || got != max(want, 0) {
			t.Errorf("Find of %03b: %d, %t", n, got, ok)
		}
	}
	if n, ok := Find(list[3:], threebits.Head(0b111)); n != 0 || !ok {
		t.Error("in the first one:", n, ok)
	}
}

func TestFindInNothing(t *testing.T) {
	for _, list := range [][]api.Atom{nil, {}, {{}, {Pile: []api.Cube{}}}, {{Pile: unsound()}}} {
		for n := range uint64(threebits.Heads) {
			if n, ok := Find(list, threebits.Head(n)); n != 0 || ok {
				t.Errorf("%v: %d, %t", list, n, ok)
			}
		}
	}
}

// Neither the Head nor the Ids of an atom tell what is in it.
func TestFindGoesByThePile(t *testing.T) {
	list := []api.Atom{headed(part("0xx", 7), threebits.Head(0b111)), headed(part("1xx"), threebits.Head(0))}
	if n, ok := Find(list, threebits.Head(0b111)); n != 1 || !ok {
		t.Error(n, ok)
	}
	many := append(rows(0, 1000), unsound()...)
	if n, ok := Find([]api.Atom{{}, {Pile: many}}, api.Head{Hi: 5, Lo: 999}); n != 1 || !ok {
		t.Error("more cubes than a pile may have:", n, ok)
	}
}

func TestOf(t *testing.T) {
	list := []api.Atom{part("0xx", 0, 3), part("10x"), part("11x", 3), {Ids: []int{math.MinInt, -1, math.MaxInt}}, {Ids: []int{3, 0, 3}}, part("xxx", 1, 2, 3, 4)}
	for _, c := range []struct {
		id   int
		want []int
	}{
		{0, []int{0, 4}}, {1, []int{5}}, {2, []int{5}}, {3, []int{0, 2, 4, 5}}, {4, []int{5}}, {5, nil},
		{-1, []int{3}}, {math.MinInt, []int{3}}, {math.MaxInt, []int{3}}, {-3, nil},
	} {
		if got := Of(list, c.id); !slices.Equal(got, c.want) {
			t.Errorf("Of %d: %v, not %v", c.id, got, c.want)
		}
	}
	for _, none := range [][]api.Atom{nil, {}, {{}}} {
		if got := Of(none, 0); len(got) != 0 {
			t.Error(got)
		}
	}
}

// oddLists are atoms as no Split makes them: that have headers in common, are not lean or empty, have other heads, or numbers more than once and out of order.
func oddLists() [][]api.Atom {
	return [][]api.Atom{
		nil,
		{},
		{{}},
		{{}, {Ids: []int{2}, Pile: []api.Cube{}}, part("xxx", 1)},
		{part("xxx"), part("xxx"), part("xxx", 2)},
		{part("0xx 00x 0xx 1x1 x11", 1), part("1xx 10x", 2, 5), part("11x 11x")},
		{headed(part("0xx", 1), threebits.Head(7)), headed(part("1xx", 4), api.Head{Hi: 9, Lo: 9})},
		{part("00x 01x", -5, 8), part("1x0", math.MinInt), part("1x1", math.MaxInt)},
		{part("0xx", 9, 1, 9, 2), part("10x", 1, 2, 9), part("11x 11x", 2, 1, 9)},
		{part("x00 0x0", 2), part("0x0 x00", 1, 2), part("x00 x0x 000", 2, 1)},
	}
}

func TestRefineOfOddLists(t *testing.T) {
	for _, list := range oddLists() {
		for _, pred := range threebits.All("01x") {
			for _, id := range []int{0, 3, 6, 100} {
				want, _ := splitByHand(list, id, pred)
				got, e := Refine(list, id, pred)
				if e != api.OK || !same(got, want) {
					t.Errorf("Refine(%v, %d, %x) = %v, %d, want %v", list, id, pred, got, e, want)
				}
			}
		}
	}
}

func TestRefineIsSplitWithACubeMore(t *testing.T) {
	for _, preds := range listsOf(threebits.All("01x"), 2) {
		list, _ := Split(preds)
		for _, c := range threebits.All("01x") {
			want, _ := Split(append(slices.Clone(preds), c))
			if got, e := Refine(list, len(preds), c); e != api.OK || !same(got, want) {
				t.Fatalf("Refine by %x after Split(%x) = %v, %d, want %v", c, preds, got, e, want)
			}
		}
	}
}

func TestRefineWrittenOut(t *testing.T) {
	for _, c := range []struct {
		name string
		list []api.Atom
		id   int
		pred string
		want []api.Atom
	}{
		{"one atom is cut", []api.Atom{part("1xx", 0), part("0xx")}, 1, "01x", []api.Atom{part("1xx", 0), part("01x", 1), part("00x")}},
		{"each atom is cut, in order", []api.Atom{part("1xx", 0), part("0xx")}, 7, "xx1", []api.Atom{part("1x1", 0, 7), part("1x0", 0), part("0x1", 7), part("0x0")}},
		{"every header", []api.Atom{part("1xx", 0), part("0xx")}, 2, "xxx", []api.Atom{part("1xx", 0, 2), part("0xx", 2)}},
		{"numbers stay in order: first", []api.Atom{part("xxx", 3, 5)}, 0, "xxx", []api.Atom{part("xxx", 0, 3, 5)}},
		{"numbers stay in order: between", []api.Atom{part("xxx", 3, 5)}, 4, "1xx", []api.Atom{part("1xx", 3, 4, 5), part("0xx", 3, 5)}},
		{"numbers stay in order: last", []api.Atom{part("xxx", 3, 5)}, math.MaxInt, "xxx", []api.Atom{part("xxx", 3, 5, math.MaxInt)}},
		{"the heads are new", []api.Atom{headed(part("xxx"), threebits.Head(5))}, 0, "x1x", []api.Atom{part("x1x", 0), part("x0x")}},
		{"the head of what is not cut is new", []api.Atom{headed(part("1xx"), threebits.Head(0)), headed(part("01x"), threebits.Head(7))}, 0, "1xx", []api.Atom{part("1xx", 0), part("01x")}},
		{"empty atoms go", []api.Atom{{}, part("1xx", 0), {Ids: []int{2}}}, 1, "0xx", []api.Atom{part("1xx", 0)}},
		{"what is not cut gets lean, and its head with it", []api.Atom{part("101 1xx 10x"), part("01x 0xx 011")}, 1, "1xx", []api.Atom{part("1xx", 1), part("0xx")}},
		{"what is cut is lean", []api.Atom{part("1xx x1x")}, 0, "11x", []api.Atom{part("11x", 0), part("10x 01x")}},
		{"no atoms", nil, 0, "1xx", nil},
	} {
		got, e := Refine(c.list, c.id, threebits.Cube(c.pred))
		if e != api.OK || !same(got, c.want) {
			t.Errorf("%s: %v, %d, want %v", c.name, got, e, c.want)
		}
	}
}

// crowded is the atom of more cubes than a pile may have.
func crowded() api.Atom { return api.Atom{Pile: rows(0, api.MaxCubes+1)} }

// badPiles are lists in which a pile is not sound, at the beginning, between others, and at the end.
func badPiles() [][]api.Atom {
	var out [][]api.Atom
	bad := []api.Atom{crowded(), {Pile: slices.Repeat(threebits.Cubes("xxx"), api.MaxCubes+1)}}
	for _, c := range unsound() {
		bad = append(bad, api.Atom{Pile: []api.Cube{c}}, api.Atom{Pile: []api.Cube{threebits.Cube("xxx"), c}}, api.Atom{Pile: []api.Cube{c, threebits.Cube("xxx")}})
	}
	for _, a := range bad {
		for n := range 3 {
			out = append(out, slices.Insert([]api.Atom{part("1xx", 1), part("0xx")}, n, a))
		}
		out = append(out, []api.Atom{a})
	}
	return out
}

func TestRefineRefuses(t *testing.T) {
	good := []api.Atom{part("1xx", 1, 3), {}, part("0xx", 9, 2, 9), {Ids: []int{6}}}
	refused := func(list []api.Atom, id int, pred api.Cube, want api.Errno) {
		t.Helper()
		if got, e := Refine(list, id, pred); got != nil || e != want {
			t.Errorf("Refine(%v, %d, %x) = %v, %d, want %d", list, id, pred, got, e, want)
		}
	}
	for _, id := range []int{-1, -2, math.MinInt} {
		refused(good, id, threebits.Cube("1xx"), api.ErrArg)
		refused(good, id, threebits.Cube("v11"), api.ErrArg)
		refused([]api.Atom{crowded()}, id, threebits.Cube("1xx"), api.ErrArg)
		refused([]api.Atom{part("xxx", id)}, id, threebits.Cube("1xx"), api.ErrArg)
		refused(nil, id, threebits.Cube("1xx"), api.ErrArg)
	}
	for _, id := range []int{0, 1, 3, math.MaxInt} {
		for _, bad := range unsound() {
			refused(good, id, bad, api.ErrForm)
			refused(nil, id, bad, api.ErrForm)
		}
		for _, list := range badPiles() {
			refused(list, id, threebits.Cube("1xx"), api.ErrForm)
			refused(list, id, threebits.Cube("xxv"), api.ErrForm)
		}
	}
	for _, id := range []int{1, 2, 3, 6, 9} {
		refused(good, id, threebits.Cube("1xx"), api.ErrThere)
		refused(good, id, threebits.Cube("xxx"), api.ErrThere)
	}
}

// Other errors than those of the arguments come last.
func TestRefineLooksAtItsArgumentsFirst(t *testing.T) {
	tooMany := append(numbered(api.MaxAtoms), api.Atom{Pile: rows(api.MaxAtoms, api.MaxCubes)})
	for _, id := range []int{0, api.MaxAtoms - 1} {
		if got, e := Refine(tooMany, id, one(127)); got != nil || e != api.ErrThere {
			t.Errorf("%d atoms, %d", len(got), e)
		}
	}
	if got, e := Refine(append(tooMany, crowded()), 0, one(127)); got != nil || e != api.ErrForm {
		t.Errorf("%d atoms, %d", len(got), e)
	}
}

func TestRefineUpToMaxAtoms(t *testing.T) {
	const id = api.MaxAtoms * 2
	few, half, full := numbered(300), numbered(301), numbered(api.MaxAtoms)
	empty := make([]api.Atom, api.MaxAtoms)
	for _, c := range []struct {
		name  string
		list  []api.Atom
		pred  api.Cube
		count int
		want  api.Errno
	}{
		{"each of 300 is cut", few, one(20), api.MaxAtoms, api.OK},
		{"each of 301 is cut", half, one(20), 0, api.ErrAtoms},
		{"none of 600 is cut", full, cube.All(), api.MaxAtoms, api.OK},
		{"600 are not met", full, fixed(0, 20, api.MaxAtoms), api.MaxAtoms, api.OK},
		{"the first of 600 is cut", full, both(one(20), fixed(0, 20, 0)), 0, api.ErrAtoms},
		{"the last of 600 is cut", full, both(one(20), fixed(0, 20, api.MaxAtoms-1)), 0, api.ErrAtoms},
		{"none of 601 is cut", numbered(api.MaxAtoms + 1), cube.All(), 0, api.ErrAtoms},
		{"600, and others that are empty", slices.Concat(empty, full, empty), cube.All(), api.MaxAtoms, api.OK},
		{"empty ones alone", slices.Concat(empty, empty), one(0), 0, api.OK},
	} {
		got, e := Refine(c.list, id, c.pred)
		if len(got) != c.count || e != c.want {
			t.Errorf("%s: %d atoms, %d", c.name, len(got), e)
		}
	}
}

func TestRefineUpToMaxCubes(t *testing.T) {
	both := api.Atom{Pile: []api.Cube{corner(0, 0), corner(1, 0)}}
	most, _ := pile.Less(both.Pile, []api.Cube{corner(0, 99)})
	for _, c := range []struct {
		name   string
		p      []api.Cube
		pred   api.Cube
		counts []int
		want   api.Errno
	}{
		{"all", most, corner(1, 101), []int{1, api.MaxCubes}, api.OK},
		{"one too many", most, corner(1, 102), nil, api.ErrCubes},
		{"as many as there may be are not met", rows(0, api.MaxCubes), fixed(0, 20, 1000), []int{api.MaxCubes}, api.OK},
		{"as many as there may be are in it", rows(0, api.MaxCubes), cube.All(), []int{api.MaxCubes}, api.OK},
		{"as many as there may be are each cut", rows(0, api.MaxCubes), one(50), []int{api.MaxCubes, api.MaxCubes}, api.OK},
		{"as many as there may be, each of which leaves two", rows(0, api.MaxCubes), fixed(50, 2, 3), nil, api.ErrCubes},
	} {
		got, e := Refine([]api.Atom{{Pile: c.p}}, 0, c.pred)
		var counts []int
		for _, a := range got {
			counts = append(counts, len(a.Pile))
		}
		if !slices.Equal(counts, c.counts) || e != c.want {
			t.Errorf("%s: %v cubes, %d", c.name, counts, e)
		}
	}
}

// The atoms are counted when all of them are split, so that too many cubes come first wherever they are.
func TestRefineTellsTheFirstError(t *testing.T) {
	wide := api.Atom{Pile: rows(5000, api.MaxCubes)}
	pred := fixed(50, 2, 3)
	for _, at := range []int{0, 1, 300, api.MaxAtoms} {
		list := slices.Insert(numbered(api.MaxAtoms), at, wide)
		if got, e := Refine(list, 1000, pred); got != nil || e != api.ErrCubes {
			t.Errorf("at %d: %d atoms, %d", at, len(got), e)
		}
	}
	if got, e := Refine(numbered(api.MaxAtoms), 1000, pred); got != nil || e != api.ErrAtoms {
		t.Errorf("%d atoms, %d", len(got), e)
	}
}

func TestCoarsenOfOddLists(t *testing.T) {
	for _, list := range oddLists() {
		for _, id := range []int{0, 1, 2, 5, 9, -5, math.MinInt, math.MaxInt} {
			want := coarseByHand(list, id)
			if got, e := Coarsen(list, id); e != api.OK || !same(got, want) {
				t.Errorf("Coarsen(%v, %d) = %v, %d, want %v", list, id, got, e, want)
			}
		}
	}
}

// Without one of its cubes, a Split has the atoms of the other cubes: the headers are parted in the same way.
func TestCoarsenOfSplits(t *testing.T) {
	for _, preds := range listsOf(threebits.All("01x"), 3) {
		list, _ := Split(preds)
		for id := range len(preds) + 1 {
			got, e := Coarsen(list, id)
			if e != api.OK || !same(got, coarseByHand(list, id)) {
				t.Fatalf("Coarsen(%v, %d) = %v, %d", list, id, got, e)
			}
			checkCoarse(t, preds, id, got)
		}
	}
}

// checkCoarse holds atoms against all cubes but one, header by header. No two of the atoms have the same numbers.
func checkCoarse(t *testing.T, preds []api.Cube, id int, list []api.Atom) {
	t.Helper()
	for n := range uint64(threebits.Heads) {
		var in []int
		for m, c := range preds {
			if m != id && cube.Has(c, threebits.Head(n)) {
				in = append(in, m)
			}
		}
		count := 0
		for _, a := range list {
			if pile.Has(a.Pile, threebits.Head(n)) && slices.Equal(a.Ids, in) {
				count++
			} else if pile.Has(a.Pile, threebits.Head(n)) || slices.Equal(a.Ids, in) {
				t.Fatalf("%x without %d: header %03b and %v", preds, id, n, a)
			}
		}
		if count != 1 {
			t.Fatalf("%x without %d: %d atoms have header %03b", preds, id, count, n)
		}
	}
}

func TestCoarsenWrittenOut(t *testing.T) {
	for _, c := range []struct {
		name string
		list []api.Atom
		id   int
		want []api.Atom
	}{
		{"no atoms", nil, 0, nil},
		{"two become one", []api.Atom{part("1xx", 0), part("0xx")}, 0, []api.Atom{part("1xx 0xx")}},
		{"none has the number", []api.Atom{part("1xx", 0), part("0xx")}, 1, []api.Atom{part("1xx", 0), part("0xx")}},
		{"none has the number, and two are alike", []api.Atom{part("1xx", 0), part("01x", 2), part("00x", 0)}, 1, []api.Atom{part("1xx 00x", 0), part("01x", 2)}},
		{"the number goes without a merge", []api.Atom{part("1xx", 0, 1), part("0xx")}, 0, []api.Atom{part("1xx", 1), part("0xx")}},
		{"a number below 0", []api.Atom{part("1xx", -1, 1), part("0xx", 1)}, -1, []api.Atom{part("1xx 0xx", 1)}},
		{"into the earlier one, behind others", []api.Atom{part("00x", 0), part("01x", 1), part("10x", 0, 2), part("11x", 1, 2)}, 2, []api.Atom{part("00x 10x", 0), part("01x 11x", 1)}},
		{"three become one", []api.Atom{part("00x", 3), part("01x"), part("1xx", 3)}, 3, []api.Atom{part("00x 01x 1xx")}},
		{"the joined pile is lean", []api.Atom{part("00x 11x"), part("0xx 11x", 3)}, 3, []api.Atom{headed(part("11x 0xx"), threebits.Head(0))}},
		{"the head is the earlier one's", []api.Atom{headed(part("1xx"), threebits.Head(6)), headed(part("0xx", 3), threebits.Head(3))}, 3, []api.Atom{headed(part("1xx 0xx"), threebits.Head(6))}},
		{"the head is the earlier one's, whatever it is", []api.Atom{headed(part("1xx"), threebits.Head(0)), part("0xx", 3)}, 3, []api.Atom{headed(part("1xx 0xx"), threebits.Head(0))}},
		{"the head of an atom that is not merged stays", []api.Atom{headed(part("1xx", 3), threebits.Head(1))}, 3, []api.Atom{headed(part("1xx"), threebits.Head(1))}},
		{"the pile of an atom that is not merged stays", []api.Atom{part("1xx 11x 1xx 0xx", 3)}, 3, []api.Atom{part("1xx 11x 1xx 0xx")}},
		{"empty atoms stay", []api.Atom{{}, {Ids: []int{3, 4}}, part("1xx", 4)}, 3, []api.Atom{{}, headed(part("1xx", 4), api.Head{})}},
	} {
		got, e := Coarsen(c.list, c.id)
		if e != api.OK || !same(got, c.want) {
			t.Errorf("%s: %v, %d, want %v", c.name, got, e, c.want)
		}
	}
}

func TestCoarsenRefusesUnsoundPiles(t *testing.T) {
	for _, list := range badPiles() {
		for _, id := range []int{-1, 0, 1, math.MaxInt, math.MinInt} {
			if got, e := Coarsen(list, id); got != nil || e != api.ErrForm {
				t.Errorf("Coarsen(%v, %d) = %v, %d", list, id, got, e)
			}
		}
	}
	tooMany := []api.Atom{{Pile: rows(0, api.MaxCubes)}, {Pile: rows(500, 1)}, crowded()}
	if got, e := Coarsen(tooMany, 0); got != nil || e != api.ErrForm {
		t.Error("ahead of too many cubes:", got, e)
	}
}

func TestCoarsenUpToMaxCubes(t *testing.T) {
	for _, c := range []struct {
		name   string
		piles  [][]api.Cube
		counts []int
		want   api.Errno
	}{
		{"as many as there may be", [][]api.Cube{rows(0, 100), rows(100, 100)}, []int{api.MaxCubes}, api.OK},
		{"one too many", [][]api.Cube{rows(0, 100), rows(100, 101)}, nil, api.ErrCubes},
		{"one too many by the third", [][]api.Cube{rows(0, 100), rows(100, 100), rows(200, 1)}, nil, api.ErrCubes},
		{"one too many ahead of a cube that has them all", [][]api.Cube{rows(0, 100), rows(100, 101), {cube.All()}}, nil, api.ErrCubes},
		{"a cube that has them all ahead of that", [][]api.Cube{rows(0, 100), {cube.All()}, rows(100, 101)}, []int{1}, api.OK},
		{"the same ones", [][]api.Cube{rows(0, api.MaxCubes), rows(0, api.MaxCubes)}, []int{api.MaxCubes}, api.OK},
	} {
		var list []api.Atom
		for n, p := range c.piles {
			list = append(list, api.Atom{Ids: slices.Repeat([]int{7}, n%2), Pile: p})
		}
		got, e := Coarsen(list, 7)
		var counts []int
		for _, a := range got {
			counts = append(counts, len(a.Pile))
		}
		if !slices.Equal(counts, c.counts) || e != c.want {
			t.Errorf("%s: %v cubes, %d", c.name, counts, e)
		}
	}
}

// Only what splits counts the atoms.
func TestCoarsenHasNoMaxAtoms(t *testing.T) {
	list := numbered(api.MaxAtoms + 5)
	got, e := Coarsen(list, -1)
	if e != api.OK || !same(got, list) {
		t.Errorf("%d atoms, %d", len(got), e)
	}
	for n := range list {
		list[n].Ids = []int{n, 5000}
	}
	if got, e := Coarsen(list, 5000); e != api.OK || !same(got, numbered(api.MaxAtoms+5)) {
		t.Errorf("%d atoms, %d", len(got), e)
	}
}

// What Refine adds, Coarsen takes away: the same numbers in the same order, with the same headers.
func TestCoarsenUndoesRefine(t *testing.T) {
	for _, preds := range listsOf(threebits.All("01x"), 2) {
		list, _ := Split(preds)
		for _, c := range threebits.All("01x") {
			fine, _ := Refine(list, 50, c)
			got, e := Coarsen(fine, 50)
			if e != api.OK || len(got) != len(list) {
				t.Fatalf("%x, and %x: %v, %d", preds, c, got, e)
			}
			for n, a := range got {
				in, _ := pile.Within(a.Pile, list[n].Pile)
				out, _ := pile.Within(list[n].Pile, a.Pile)
				if !in || !out || !slices.Equal(a.Ids, list[n].Ids) || !pile.Has(a.Pile, a.Head) {
					t.Fatalf("%x, and %x: %v, not %v", preds, c, a, list[n])
				}
			}
		}
	}
}

// spare is a list with spare capacity behind it, which is to stay.
func spare[T any](list []T, filler T) []T {
	out := append(slices.Clone(list), slices.Repeat([]T{filler}, 3)...)
	return out[:len(list)]
}

// padded is a list with spare capacity behind it and behind all that it has, and all of this memory in one list.
func padded(list []api.Atom) (atoms, memory []api.Atom) {
	atoms = spare(list, part("v0v", -9, -9))
	memory = slices.Clone(atoms[:len(list)+3])
	for n, a := range list {
		a.Ids, a.Pile = spare(a.Ids, -8), spare(a.Pile, threebits.Cube("vvv"))
		atoms[n] = a
		memory[n].Ids, memory[n].Pile = a.Ids[:len(a.Ids)+3], a.Pile[:len(a.Pile)+3]
	}
	return atoms, memory
}

// answers are what all calls answer that answer atoms.
func answers(list []api.Atom, pred api.Cube) [][]api.Atom {
	refined, _ := Refine(list, 77, pred)
	coarse, _ := Coarsen(list, 1)
	other, _ := Coarsen(list, 77)
	return [][]api.Atom{refined, coarse, other}
}

func TestArgumentsAreNotChanged(t *testing.T) {
	for _, odd := range oddLists() {
		for _, pred := range threebits.All("01x") {
			list, memory := padded(odd)
			before := cloned(memory)
			answers(list, pred)
			Of(list, 1)
			Find(list, pred.Value)
			if !same(list[:len(list)+3], append(cloned(odd), before[len(odd):]...)) || !same(memory, before) {
				t.Errorf("%v, split by %x, was changed", odd, pred)
			}
		}
	}
	preds := spare(threebits.Cubes("1xx x1x 00x"), threebits.Cube("vvv"))
	memory := slices.Clone(preds[:6])
	Split(preds)
	if !slices.Equal(preds[:6], memory) {
		t.Error("the cubes were changed")
	}
}

// overwrite changes all memory of a list, with its spare capacity.
func overwrite(list []api.Atom) {
	for n := range list {
		for i := range list[n].Ids[:cap(list[n].Ids)] {
			list[n].Ids[:cap(list[n].Ids)][i] = 4000
		}
		for i := range list[n].Pile[:cap(list[n].Pile)] {
			list[n].Pile[:cap(list[n].Pile)][i] = threebits.Cube("v1v")
		}
	}
	for n := range list[:cap(list)] {
		list[:cap(list)][n] = api.Atom{Ids: []int{4000}}
	}
}

func TestResultsShareNoMemoryWithArguments(t *testing.T) {
	for _, odd := range oddLists() {
		for _, pred := range threebits.All("01x") {
			list, memory := padded(odd)
			before := cloned(memory)
			for _, answer := range answers(list, pred) {
				overwrite(answer)
			}
			if !same(list, odd) || !same(memory, before) {
				t.Fatalf("%v, split by %x, shares memory with a result", odd, pred)
			}
			first, want := answers(list, pred), answers(odd, pred)
			overwrite(list)
			for n := range first {
				if !same(first[n], want[n]) {
					t.Fatalf("a result of %v, split by %x, changes with it", odd, pred)
				}
			}
		}
	}
}

// checkOwn overwrites the memory of each atom of a result in turn, and looks at whether the others stay.
func checkOwn(t *testing.T, list []api.Atom) {
	t.Helper()
	want := cloned(list)
	for n := range list {
		one := list[n]
		overwrite([]api.Atom{one})
		list[n], want[n] = api.Atom{}, api.Atom{}
		if !same(list, want) {
			t.Fatalf("atom %d of %v shares memory with another one", n, want)
		}
	}
}

func TestAtomsOfAResultShareNoMemory(t *testing.T) {
	for _, preds := range listsOf(threebits.All("01x"), 2) {
		list, _ := Split(append(preds, threebits.Cube("x11"), threebits.Cube("xxx")))
		for _, answer := range answers(list, threebits.Cube("1x0")) {
			checkOwn(t, answer)
		}
		checkOwn(t, list)
	}
	for _, odd := range oddLists() {
		for _, pred := range threebits.All("01x") {
			for _, answer := range answers(odd, pred) {
				checkOwn(t, answer)
			}
		}
	}
	twice := part("0xx 00x", 1)
	for _, answer := range answers([]api.Atom{twice, twice, headed(twice, threebits.Head(3))}, threebits.Cube("0x1")) {
		checkOwn(t, answer)
	}
}

func TestOfIsNew(t *testing.T) {
	list := []api.Atom{part("0xx", 0, 1), part("1xx", 1)}
	got := Of(list, 1)
	overwrite([]api.Atom{{Ids: got}})
	if again := Of(list, 1); !slices.Equal(again, []int{0, 1}) {
		t.Error(again)
	}
}

// What a call answers does not hang on the calls ahead of it.
func TestSplitKeepsNothing(t *testing.T) {
	preds := threebits.Cubes("1xx x1x 001")
	want, _ := Split(preds)
	want = cloned(want)
	got, _ := Split(preds)
	overwrite(got)
	Split(ones(0, 10))
	if again, e := Split(preds); e != api.OK || !same(again, want) {
		t.Error(again, e)
	}
}
