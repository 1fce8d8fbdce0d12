package trie

import (
	"math"
	"math/rand"
	"slices"
	"testing"

	"customhouse/api"
	"customhouse/cube"
	"customhouse/head"
	"customhouse/threebits"
)

// unsound are cubes with a bit of Value that Care does not have.
func unsound() []api.Cube {
	return append(threebits.Cubes("vxx xvx xxv 0v1 v11 vvv"), api.Cube{Value: api.Head{Lo: math.MaxUint64}, Care: api.Head{Lo: math.MaxUint64 - 1}})
}

// fixed is the headers whose bits from one on are those of a value.
func fixed(at, bits int, v uint64) api.Cube {
	care, _ := head.Mask(at, bits)
	value, _ := head.Put(api.Head{}, at, min(bits, 64), v)
	return cube.Make(value, care)
}

// bit is the header with one bit.
func bit(n int) api.Head { return fixed(n, 1, 1).Value }

// flat is what a trie has, kept as plainly as can be.
type flat map[int]api.Cube

// only are the numbers of the cubes that pass a test, in increasing order.
func (f flat) only(passes func(api.Cube) bool) []int {
	var out []int
	for id, c := range f {
		if passes(c) {
			out = append(out, id)
		}
	}
	slices.Sort(out)
	return out
}

func (f flat) match(h api.Head) []int {
	return f.only(func(c api.Cube) bool {
		return h.Hi&c.Care.Hi == c.Value.Hi && h.Lo&c.Care.Lo == c.Value.Lo
	})
}

func (f flat) overlap(c api.Cube) []int {
	if c.Value.Hi&^c.Care.Hi != 0 || c.Value.Lo&^c.Care.Lo != 0 {
		return nil
	}
	return f.only(func(d api.Cube) bool {
		return (c.Value.Hi^d.Value.Hi)&c.Care.Hi&d.Care.Hi == 0 && (c.Value.Lo^d.Value.Lo)&c.Care.Lo&d.Care.Lo == 0
	})
}

// holds tells whether a trie answers as the flat one, for some headers and cubes.
func holds(t *testing.T, a *Trie, f flat, heads []api.Head, cubes []api.Cube) {
	t.Helper()
	if n := a.Len(); n != len(f) {
		t.Fatalf("Len: %d of %v", n, f)
	}
	for _, h := range heads {
		if got, want := a.Match(h), f.match(h); !slices.Equal(got, want) {
			t.Fatalf("Match %x of %v: %v, not %v", h, f, got, want)
		}
	}
	for _, c := range cubes {
		if got, want := a.Overlap(c), f.overlap(c); !slices.Equal(got, want) {
			t.Fatalf("Overlap %x of %v: %v, not %v", c, f, got, want)
		}
	}
}

// smallHolds is holds for all that can be told of small cubes: all headers of three bits, all small cubes, and unsound ones.
func smallHolds(t *testing.T, a *Trie, f flat) {
	t.Helper()
	var heads []api.Head
	for n := range uint64(threebits.Heads) {
		heads = append(heads, threebits.Head(n))
	}
	holds(t, a, f, heads, append(threebits.All("01x"), unsound()...))
}

// tidy tells whether a node is as the trie's remarks have it.
func tidy(t *testing.T, n *node, under int, f flat) (sizes int) {
	t.Helper()
	if len(f.only(func(c api.Cube) bool { return c == n.sample })) == 0 {
		t.Fatalf("a node has %x, which is not in %v", n.sample, f)
	}
	if n.at >= under || n.at < leaf {
		t.Fatalf("a node of bit %d under one of bit %d", n.at, under)
	}
	if n.at == leaf {
		if len(n.ids) == 0 || n.branches != [letters]*node{} {
			t.Fatalf("a leaf with ids %v and branches %v", n.ids, n.branches)
		}
		return len(n.ids)
	}
	ways := 0
	for letter, b := range n.branches {
		if b == nil {
			continue
		}
		ways++
		sizes += tidy(t, b, n.at, f)
		if letterAt(b.sample, n.at) != letter {
			t.Fatalf("%x is in branch %d of bit %d", b.sample, letter, n.at)
		}
		if partingOf(n.sample, b.sample) > n.at {
			t.Fatalf("%x and %x are under one node of bit %d", n.sample, b.sample, n.at)
		}
	}
	if ways < 2 || n.ids != nil {
		t.Fatalf("a node with %d branches and ids %v", ways, n.ids)
	}
	return sizes
}

// wholeHolds tells whether a trie has just what it needs for its cubes.
func wholeHolds(t *testing.T, a *Trie, f flat) {
	t.Helper()
	if a.root == nil && len(f) == 0 {
		return
	}
	if n := tidy(t, a.root, 128, f); n != len(f) {
		t.Fatalf("%d numbers in the leaves for %d cubes", n, len(f))
	}
}

func add(t *testing.T, a *Trie, id int, c api.Cube) {
	t.Helper()
	if e := a.Add(id, c); e != api.OK {
		t.Fatalf("Add %d %x: %d", id, c, e)
	}
}

func TestNewIsEmpty(t *testing.T) {
	a := New()
	if a == nil {
		t.Fatal("nil")
	}
	smallHolds(t, a, flat{})
	if a.Remove(0) {
		t.Error("Remove of nothing")
	}
}

func TestWrittenOut(t *testing.T) {
	a := New()
	for id, p := range []string{"xxx", "0xx", "01x", "011", "xx1", "1x0", "x10", "011"} {
		add(t, a, 10*id, threebits.Cube(p))
	}
	if n := a.Len(); n != 8 {
		t.Errorf("Len: %d", n)
	}
	for n, want := range [][]int{
		{0, 10},
		{0, 10, 40},
		{0, 10, 20, 60},
		{0, 10, 20, 30, 40, 70},
		{0, 50},
		{0, 40},
		{0, 50, 60},
		{0, 40},
	} {
		if got := a.Match(threebits.Head(uint64(n))); !slices.Equal(got, want) {
			t.Errorf("Match %03b: %v", n, got)
		}
	}
	for _, c := range []struct {
		pattern string
		want    []int
	}{
		{"xxx", []int{0, 10, 20, 30, 40, 50, 60, 70}},
		{"0xx", []int{0, 10, 20, 30, 40, 60, 70}},
		{"1xx", []int{0, 40, 50, 60}},
		{"x0x", []int{0, 10, 40, 50}},
		{"xx1", []int{0, 10, 20, 30, 40, 70}},
		{"xx0", []int{0, 10, 20, 50, 60}},
		{"100", []int{0, 50}},
		{"vxx", nil},
		{"01v", nil},
	} {
		if got := a.Overlap(threebits.Cube(c.pattern)); !slices.Equal(got, c.want) {
			t.Errorf("Overlap %s: %v", c.pattern, got)
		}
	}
	for _, c := range []struct {
		id   int
		want bool
	}{{30, true}, {30, false}, {31, false}, {0, true}, {-10, false}, {math.MaxInt, false}, {math.MinInt, false}} {
		if got := a.Remove(c.id); got != c.want {
			t.Errorf("Remove %d: %t", c.id, got)
		}
	}
	if got := a.Match(threebits.Head(3)); !slices.Equal(got, []int{10, 20, 40, 70}) {
		t.Errorf("Match after Remove: %v", got)
	}
	if n := a.Len(); n != 6 {
		t.Errorf("Len after Remove: %d", n)
	}
}

func TestAddErrors(t *testing.T) {
	add4 := func() *Trie {
		a := New()
		add(t, a, 4, threebits.Cube("01x"))
		return a
	}
	for _, c := range []struct {
		id      int
		pattern string
		want    api.Errno
	}{
		{-1, "xxx", api.ErrArg},
		{math.MinInt, "xxx", api.ErrArg},
		{-4, "vxx", api.ErrArg},
		{0, "vxx", api.ErrForm},
		{0, "01v", api.ErrForm},
		{4, "01v", api.ErrForm},
		{4, "01x", api.ErrThere},
		{4, "xxx", api.ErrThere},
		{4, "100", api.ErrThere},
		{0, "01x", api.OK},
		{5, "100", api.OK},
		{math.MaxInt, "100", api.OK},
	} {
		a, f := add4(), flat{4: threebits.Cube("01x")}
		if e := a.Add(c.id, threebits.Cube(c.pattern)); e != c.want {
			t.Errorf("Add %d %s: %d, not %d", c.id, c.pattern, e, c.want)
		}
		if c.want == api.OK {
			f[c.id] = threebits.Cube(c.pattern)
		}
		smallHolds(t, a, f)
		wholeHolds(t, a, f)
	}
	for _, c := range unsound() {
		if e := New().Add(0, c); e != api.ErrForm {
			t.Errorf("Add %x: %d", c, e)
		}
	}
}

func TestNil(t *testing.T) {
	var a *Trie
	for _, id := range []int{-1, 0, 1, math.MaxInt} {
		for _, p := range threebits.Cubes("xxx 010 vxx") {
			if e := a.Add(id, p); e != api.ErrArg {
				t.Errorf("Add: %d", e)
			}
		}
		if a.Remove(id) {
			t.Error("Remove")
		}
	}
	if l := a.Match(api.Head{}); len(l) != 0 {
		t.Errorf("Match: %v", l)
	}
	for _, p := range threebits.Cubes("xxx 010 vxx") {
		if l := a.Overlap(p); len(l) != 0 {
			t.Errorf("Overlap: %v", l)
		}
	}
	if n := a.Len(); n != 0 {
		t.Errorf("Len: %d", n)
	}
}

// A trie that nobody made with New is an empty one.
func TestZeroTrie(t *testing.T) {
	var a Trie
	smallHolds(t, &a, flat{})
	if a.Remove(0) {
		t.Error("Remove of nothing")
	}
	add(t, &a, 0, threebits.Cube("01x"))
	smallHolds(t, &a, flat{0: threebits.Cube("01x")})
}

// All lists of three small cubes, and what is left of them when they go, in several orders.
func TestSmallCubes(t *testing.T) {
	cubes := threebits.All("01x")
	orders := [][3]int{{0, 1, 2}, {2, 1, 0}, {1, 2, 0}}
	turn := 0
	for _, x := range cubes {
		for _, y := range cubes {
			for _, z := range cubes {
				a, f := New(), flat{}
				for n, c := range []api.Cube{x, y, z} {
					id := []int{7, 0, 3}[n]
					add(t, a, id, c)
					f[id] = c
				}
				smallHolds(t, a, f)
				for _, n := range orders[turn%len(orders)] {
					id := []int{7, 0, 3}[n]
					if !a.Remove(id) || a.Remove(id) {
						t.Fatalf("Remove %d of %v", id, f)
					}
					delete(f, id)
					wholeHolds(t, a, f)
					smallHolds(t, a, f)
				}
				turn++
			}
		}
	}
}

// near is a cube that is like others in many bits.
func near(r *rand.Rand) api.Cube {
	c := cube.Make(api.Head{Hi: 0x0123456789abcdef, Lo: 0xfedcba9876543210}, api.Head{Hi: 0xffff0000ffffff0f, Lo: 0xffffffff00ff0000})
	for range r.Intn(4) {
		b := bit([]int{0, 1, 5, 31, 32, 62, 63, 64, 65, 90, 126, 127}[r.Intn(12)])
		if r.Intn(2) == 0 {
			c.Care = head.Xor(c.Care, b)
		}
		if r.Intn(2) == 0 {
			c.Value = head.Xor(c.Value, b)
		}
	}
	return cube.Make(c.Value, c.Care)
}

// anyOf is a header of a cube, most often.
func anyOf(r *rand.Rand, c api.Cube) api.Head {
	h := cube.Set(api.Head{Hi: r.Uint64(), Lo: r.Uint64()}, c)
	if r.Intn(3) == 0 {
		h = head.Xor(h, bit(r.Intn(128)))
	}
	return h
}

// Cubes of 128 bits come and go, and the numbers of those that went come again.
func TestComeAndGo(t *testing.T) {
	for seed := range int64(20) {
		r := rand.New(rand.NewSource(seed))
		a, f := New(), flat{}
		for range 400 {
			id, c := r.Intn(40), near(r)
			_, there := f[id]
			if r.Intn(5) < 3 {
				want := api.OK
				if there {
					want = api.ErrThere
				} else {
					f[id] = c
				}
				if e := a.Add(id, c); e != want {
					t.Fatalf("Add: %d, not %d", e, want)
				}
			} else {
				if a.Remove(id) != there {
					t.Fatalf("Remove: not %t", there)
				}
				delete(f, id)
			}
			wholeHolds(t, a, f)
			holds(t, a, f, []api.Head{anyOf(r, c), anyOf(r, near(r)), {}}, []api.Cube{c, near(r), cube.All()})
		}
	}
}

// Each bit of a header parts cubes that differ in it alone.
func TestEveryBit(t *testing.T) {
	a, f := New(), flat{}
	var heads []api.Head
	var cubes []api.Cube
	for n := range 128 {
		for letter, c := range []api.Cube{{Care: bit(n)}, {Care: bit(n), Value: bit(n)}} {
			add(t, a, 2*n+letter, c)
			f[2*n+letter] = c
			cubes = append(cubes, c)
		}
		heads = append(heads, bit(n))
	}
	add(t, a, 1000, cube.All())
	f[1000] = cube.All()
	wholeHolds(t, a, f)
	holds(t, a, f, heads, append(cubes, cube.All()))
	for n := range 128 {
		single := New()
		all := api.Head{Hi: math.MaxUint64, Lo: math.MaxUint64}
		add(t, single, 1, cube.Make(bit(n), all))
		add(t, single, 0, cube.Make(api.Head{}, all))
		add(t, single, 2, cube.Make(api.Head{}, head.Less(all, bit(n))))
		if l := single.Match(bit(n)); !slices.Equal(l, []int{1, 2}) {
			t.Errorf("bit %d: %v", n, l)
		}
		if l := single.Match(api.Head{}); !slices.Equal(l, []int{0, 2}) {
			t.Errorf("bit %d: %v", n, l)
		}
		if l := single.Match(bit((n + 1) % 128)); len(l) != 0 {
			t.Errorf("bit %d: %v", n, l)
		}
	}
}

// Prefixes of every length, each in all shorter ones, as of routes.
func TestPrefixes(t *testing.T) {
	a, f := New(), flat{}
	h := api.Head{Hi: 0xa5a5a5a55a5a5a5a, Lo: 0x0f0f00ff3c3cc3c3}
	var heads []api.Head
	var cubes []api.Cube
	for n := range 129 {
		care, _ := head.Mask(128-n, n)
		add(t, a, 128-n, cube.Make(h, care))
		f[128-n] = cube.Make(h, care)
		cubes = append(cubes, cube.Make(h, care))
		heads = append(heads, head.Xor(h, bit(n%128)))
	}
	holds(t, a, f, append(heads, h), cubes)
	if l := a.Match(h); len(l) != 129 || l[0] != 0 || l[128] != 128 {
		t.Errorf("%v", l)
	}
}

// A search leaves out what its branches do not lead to.
func TestSearchIsNarrow(t *testing.T) {
	a := New()
	for n := range 256 {
		add(t, a, n, fixed(60, 8, uint64(n)))
	}
	add(t, a, 256, cube.All())
	for _, c := range []struct {
		cube api.Cube
		want int
	}{{fixed(60, 8, 7), 2}, {fixed(64, 4, 15), 17}, {fixed(60, 4, 0), 17}, {cube.All(), 257}} {
		if found := a.root.search(sought(c.cube).enters, nil); len(found) != c.want {
			t.Errorf("%x: %d leaves", c.cube, len(found))
		}
		if l := a.Overlap(c.cube); len(l) != c.want {
			t.Errorf("%x: %v", c.cube, l)
		}
	}
}

// Many numbers may have the same cube, and go one by one.
func TestSameCube(t *testing.T) {
	a, f := New(), flat{}
	for _, id := range []int{5, 2, 9, 0, 7, 1} {
		add(t, a, id, threebits.Cube("0x1"))
		f[id] = threebits.Cube("0x1")
	}
	add(t, a, 6, threebits.Cube("0xx"))
	f[6] = threebits.Cube("0xx")
	if l := a.Match(threebits.Head(1)); !slices.Equal(l, []int{0, 1, 2, 5, 6, 7, 9}) {
		t.Errorf("%v", l)
	}
	for _, id := range []int{9, 5, 0, 1, 2, 7, 6} {
		if !a.Remove(id) || a.Remove(id) {
			t.Errorf("Remove %d", id)
		}
		delete(f, id)
		smallHolds(t, a, f)
		wholeHolds(t, a, f)
	}
}

func TestExtremeIds(t *testing.T) {
	a := New()
	for _, id := range []int{math.MaxInt, 0, 1 << 40, math.MaxInt - 1} {
		add(t, a, id, cube.All())
	}
	want := []int{0, 1 << 40, math.MaxInt - 1, math.MaxInt}
	if l := a.Match(api.Head{Hi: math.MaxUint64, Lo: math.MaxUint64}); !slices.Equal(l, want) {
		t.Errorf("%v", l)
	}
	if !a.Remove(math.MaxInt) || a.Remove(-math.MaxInt) || a.Len() != 3 {
		t.Error("Remove")
	}
}

// What a call answered is the caller's, all of it.
func TestMemory(t *testing.T) {
	a, f := New(), flat{}
	for id, p := range threebits.Cubes("xxx 0xx xxx x1x xxx") {
		add(t, a, id, p)
		f[id] = p
	}
	spoil := func(l []int) {
		for n := range l[:cap(l)] {
			l[:cap(l)][n] = -9
		}
	}
	first, second := a.Match(threebits.Head(2)), a.Match(threebits.Head(2))
	spoil(first)
	if !slices.Equal(second, []int{0, 1, 2, 3, 4}) {
		t.Errorf("Match: %v", second)
	}
	first, second = a.Overlap(threebits.Cube("xxx")), a.Overlap(threebits.Cube("xxx"))
	spoil(first)
	if !slices.Equal(second, []int{0, 1, 2, 3, 4}) {
		t.Errorf("Overlap: %v", second)
	}
	only := New()
	for _, id := range []int{3, 1} {
		add(t, only, id, threebits.Cube("0xx"))
	}
	spoil(only.Match(threebits.Head(2)))
	spoil(only.Overlap(threebits.Cube("0xx")))
	smallHolds(t, only, flat{1: threebits.Cube("0xx"), 3: threebits.Cube("0xx")})
	before := a.Match(threebits.Head(2))
	add(t, a, 5, threebits.Cube("xxx"))
	a.Remove(0)
	if !slices.Equal(before, []int{0, 1, 2, 3, 4}) {
		t.Errorf("an earlier answer: %v", before)
	}
	delete(f, 0)
	f[5] = threebits.Cube("xxx")
	smallHolds(t, a, f)
}

// What one trie has is no other one's.
func TestTriesApart(t *testing.T) {
	a, b := New(), New()
	add(t, a, 1, threebits.Cube("0xx"))
	add(t, b, 1, threebits.Cube("1xx"))
	add(t, b, 2, threebits.Cube("xxx"))
	if !a.Remove(1) || a.Remove(2) {
		t.Error("Remove")
	}
	smallHolds(t, a, flat{})
	smallHolds(t, b, flat{1: threebits.Cube("1xx"), 2: threebits.Cube("xxx")})
}
