package cube

import (
	"math"
	"slices"
	"strings"
	"testing"

	"customhouse/api"
	"customhouse/head"
)

const all = math.MaxUint64

// places are the bits that the tests' patterns stand for, from the highest one on: the ends of a header, and where its halves meet.
func places() []int { return []int{127, 64, 63, 0} }

// bit is the header with one bit alone.
func bit(n int) api.Head {
	if n >= 64 {
		return api.Head{Hi: 1 << (n - 64)}
	}
	return api.Head{Lo: 1 << n}
}

// join is the header with the bits of all of them.
func join(heads ...api.Head) api.Head {
	var h api.Head
	for _, x := range heads {
		h.Hi |= x.Hi
		h.Lo |= x.Lo
	}
	return h
}

// patterns are all texts of so many of the letters.
func patterns(letters string, n int) []string {
	if n == 0 {
		return []string{""}
	}
	var out []string
	for _, rest := range patterns(letters, n-1) {
		for _, l := range letters {
			out = append(out, string(l)+rest)
		}
	}
	return out
}

func cubePatterns() []string { return patterns("01x", len(places())) }

func headPatterns() []string { return patterns("01", len(places())) }

// toCube is the cube of a pattern: 0 and 1 are fixed, x is open, and a v is what makes it unsound: a bit of Value that Care does not have.
func toCube(pattern string) api.Cube {
	var c api.Cube
	for i, n := range places() {
		if strings.Contains("01", pattern[i:i+1]) {
			c.Care = join(c.Care, bit(n))
		}
		if strings.Contains("1v", pattern[i:i+1]) {
			c.Value = join(c.Value, bit(n))
		}
	}
	return c
}

// toHead is the header of a pattern of 0 and 1.
func toHead(pattern string) api.Head { return toCube(pattern).Value }

func toCubes(patterns ...string) []api.Cube {
	var out []api.Cube
	for _, p := range patterns {
		out = append(out, toCube(p))
	}
	return out
}

// isIn tells letter by letter whether the header of a pattern is in the cube of another one.
func isIn(cube, header string) bool {
	for i := range cube {
		if cube[i] != 'x' && cube[i] != header[i] {
			return false
		}
	}
	return true
}

// cubeOf is the pattern of the smallest cube with these headers, if there is one.
func cubeOf(headers []string) (string, bool) {
	if len(headers) == 0 {
		return "", false
	}
	out := []byte(headers[0])
	for _, h := range headers {
		for i := range out {
			if h[i] != out[i] {
				out[i] = 'x'
			}
		}
	}
	return string(out), true
}

// headersWhere are the headers' patterns for which something holds.
func headersWhere(holds func(string) bool) []string {
	return slices.DeleteFunc(headPatterns(), func(h string) bool { return !holds(h) })
}

// setTo is the pattern of a header after the fixed letters of another pattern were set.
func setTo(header, set string) string {
	out := []byte(header)
	for i := range out {
		if set[i] == '0' || set[i] == '1' {
			out[i] = set[i]
		}
	}
	return string(out)
}

// unsound are cubes with a bit of Value that Care does not have, in either half.
func unsound() []api.Cube {
	return []api.Cube{
		{Value: api.Head{Lo: 1}},
		{Value: api.Head{Hi: 1 << 63}},
		{Value: api.Head{Lo: 2}, Care: api.Head{Lo: 1}},
		{Value: api.Head{Lo: 3}, Care: api.Head{Lo: 1}},
		{Value: api.Head{Lo: 1}, Care: api.Head{Hi: 1}},
		{Value: api.Head{Hi: 1}, Care: api.Head{Lo: 1}},
		{Value: api.Head{Hi: all, Lo: all}, Care: api.Head{Hi: all, Lo: all - 1}},
		{Value: api.Head{Hi: all, Lo: all}, Care: api.Head{Hi: all >> 1, Lo: all}},
	}
}

func TestSound(t *testing.T) {
	for _, p := range patterns("01xv", len(places())) {
		if got, want := Sound(toCube(p)), !strings.Contains(p, "v"); got != want {
			t.Errorf("Sound(%s) = %t", p, got)
		}
	}
	for _, c := range unsound() {
		if Sound(c) {
			t.Errorf("Sound(%x) is true", c)
		}
	}
	if !Sound(api.Cube{Value: api.Head{Hi: all, Lo: all}, Care: api.Head{Hi: all, Lo: all}}) {
		t.Error("a cube of one header is not sound")
	}
}

func TestAllHasEveryHeader(t *testing.T) {
	if All() != (api.Cube{}) || !Sound(All()) {
		t.Errorf("All() = %x", All())
	}
	for _, h := range []api.Head{{}, {Hi: all, Lo: all}, {Hi: 1 << 63}, {Lo: 1}, {Hi: 5, Lo: 9}} {
		if !Has(All(), h) {
			t.Errorf("All() has no %x", h)
		}
	}
}

func TestMake(t *testing.T) {
	for _, c := range []struct{ value, care, want api.Head }{
		{api.Head{}, api.Head{}, api.Head{}},
		{api.Head{Hi: all, Lo: all}, api.Head{}, api.Head{}},
		{api.Head{Hi: 0b1100, Lo: 0b0110}, api.Head{Hi: 0b1010, Lo: 0b0011}, api.Head{Hi: 0b1000, Lo: 0b0010}},
		{api.Head{Hi: all, Lo: all}, api.Head{Hi: 1 << 63, Lo: 1}, api.Head{Hi: 1 << 63, Lo: 1}},
		{api.Head{Hi: 1}, api.Head{Lo: 1}, api.Head{}},
		{api.Head{}, api.Head{Hi: all, Lo: all}, api.Head{}},
	} {
		got := Make(c.value, c.care)
		if got.Value != c.want || got.Care != c.care || !Sound(got) {
			t.Errorf("Make(%x, %x) = %x", c.value, c.care, got)
		}
	}
}

func TestFieldOfEveryLength(t *testing.T) {
	fields := [][2]int{
		{api.DstAt, api.DstBits}, {api.SrcAt, api.SrcBits}, {api.AppAt, api.AppBits}, {api.KindAt, api.KindBits},
		{api.NetAt, api.NetBits}, {api.TagAt, api.TagBits}, {api.MarkAt, api.MarkBits},
		{0, 64}, {64, 64}, {32, 64}, {63, 2}, {0, 0}, {64, 0}, {128, 0}, {127, 1},
	}
	for _, f := range fields {
		at, bits := f[0], f[1]
		v := uint64(0x9e3779b97f4a7c15) & (1<<bits - 1)
		for length := range bits + 1 {
			var want api.Cube
			for n := bits - length; n < bits; n++ {
				want.Care = join(want.Care, bit(at+n))
				if v>>n&1 == 1 {
					want.Value = join(want.Value, bit(at+n))
				}
			}
			if got, e := Field(at, bits, v, length); got != want || e != api.OK {
				t.Errorf("Field(%d, %d, %x, %d) = %x, %d, want %x", at, bits, v, length, got, e, want)
			}
		}
	}
}

func TestFieldWrittenOut(t *testing.T) {
	for _, c := range []struct {
		at, bits int
		v        uint64
		length   int
		want     api.Cube
	}{
		{api.DstAt, api.DstBits, 0x0a0b0c0d, 24, api.Cube{Value: api.Head{Lo: 0x0a0b0c00}, Care: api.Head{Lo: 0xffffff00}}},
		{api.NetAt, api.NetBits, 0x123456, 24, api.Cube{Value: api.Head{Hi: 0x123456000000}, Care: api.Head{Hi: 0xffffff000000}}},
		{api.MarkAt, api.MarkBits, 0xff, 1, api.Cube{Value: api.Head{Hi: 1 << 63}, Care: api.Head{Hi: 1 << 63}}},
		{api.DstAt, api.DstBits, 0xffffffff, 0, All()},
	} {
		if got, e := Field(c.at, c.bits, c.v, c.length); got != c.want || e != api.OK {
			t.Errorf("Field(%d, %d, %x, %d) = %x, %d", c.at, c.bits, c.v, c.length, got, e)
		}
	}
}

func TestFieldRefusesLengths(t *testing.T) {
	for _, bits := range []int{0, 1, 8, 64} {
		for _, length := range []int{math.MinInt, -64, -1, bits + 1, bits + 64, 128, math.MaxInt} {
			if got, e := Field(8, bits, 0, length); got != (api.Cube{}) || e != api.ErrRange {
				t.Errorf("Field(8, %d, 0, %d) = %x, %d", bits, length, got, e)
			}
		}
	}
}

// The errors of Put come ahead of those of the length.
func TestFieldHasTheErrorsOfPut(t *testing.T) {
	ats := []int{math.MinInt, -1, 0, 8, 64, 65, 127, 128, 129, math.MaxInt}
	widths := []int{math.MinInt, -1, 0, 1, 8, 64, 65, 128, math.MaxInt}
	for _, at := range ats {
		for _, bits := range widths {
			for _, v := range []uint64{0, 1, 2, 0xff, 0x100, all} {
				_, want := head.Put(api.Head{}, at, bits, v)
				for _, length := range []int{math.MinInt, -1, 0, 1, bits, math.MaxInt} {
					expect := want
					if want == api.OK && (length < 0 || length > bits) {
						expect = api.ErrRange
					}
					got, e := Field(at, bits, v, length)
					if e != expect || e != api.OK && got != (api.Cube{}) {
						t.Errorf("Field(%d, %d, %x, %d) = %x, %d, want %d", at, bits, v, length, got, e, expect)
					}
				}
			}
		}
	}
	if _, e := Field(-1, 8, 0, 99); e != api.ErrArg {
		t.Errorf("a bad field and a bad length: %d", e)
	}
	if _, e := Field(0, 8, 0x100, 0); e != api.ErrRange {
		t.Errorf("a value that does not fit: %d", e)
	}
}

func TestHas(t *testing.T) {
	// Bits that no pattern stands for are open in each of its cubes.
	for _, other := range []api.Head{{}, {Hi: 1 << 62, Lo: 2}, {Hi: all >> 1 &^ 1, Lo: all >> 1 &^ 1}} {
		for _, c := range cubePatterns() {
			for _, h := range headPatterns() {
				if got, want := Has(toCube(c), join(toHead(h), other)), isIn(c, h); got != want {
					t.Errorf("Has(%s, %s) = %t", c, h, got)
				}
			}
		}
	}
}

func TestHasOfUnsoundIsFalse(t *testing.T) {
	for _, p := range patterns("01xv", len(places())) {
		for _, h := range headPatterns() {
			if strings.Contains(p, "v") && Has(toCube(p), toHead(h)) {
				t.Errorf("Has(%s, %s) is true", p, h)
			}
		}
	}
	for _, c := range unsound() {
		for _, h := range []api.Head{{}, c.Value, c.Care, join(c.Value, c.Care), {Hi: all, Lo: all}} {
			if Has(c, h) {
				t.Errorf("Has(%x, %x) is true", c, h)
			}
		}
	}
}

func TestMeetOfEveryTwo(t *testing.T) {
	for _, a := range cubePatterns() {
		for _, b := range cubePatterns() {
			both := headersWhere(func(h string) bool { return isIn(a, h) && isIn(b, h) })
			p, want := cubeOf(both)
			var cube api.Cube
			if want {
				cube = toCube(p)
			}
			if got, ok := Meet(toCube(a), toCube(b)); got != cube || ok != want {
				t.Errorf("Meet(%s, %s) = %x, %t, want %s, %t", a, b, got, ok, p, want)
			}
		}
	}
}

func TestMeetWrittenOut(t *testing.T) {
	if got, ok := Meet(toCube("1xx0"), toCube("x1x0")); got != toCube("11x0") || !ok {
		t.Error(got, ok)
	}
	if got, ok := Meet(toCube("1xx0"), toCube("x1x1")); got != (api.Cube{}) || ok {
		t.Error("an empty intersection:", got, ok)
	}
	if got, ok := Meet(toCube("0xxx"), toCube("1xxx")); got != (api.Cube{}) || ok {
		t.Error("an empty intersection:", got, ok)
	}
	if got, ok := Meet(All(), All()); got != All() || !ok {
		t.Error(got, ok)
	}
}

func TestWithinOfEveryTwo(t *testing.T) {
	for _, a := range cubePatterns() {
		for _, b := range cubePatterns() {
			outside := headersWhere(func(h string) bool { return isIn(a, h) && !isIn(b, h) })
			if got, want := Within(toCube(a), toCube(b)), len(outside) == 0; got != want {
				t.Errorf("Within(%s, %s) = %t", a, b, got)
			}
		}
	}
}

// difference is what Less has to answer for two patterns, letter by letter.
func difference(a, b string) []string {
	if len(headersWhere(func(h string) bool { return isIn(a, h) && isIn(b, h) })) == 0 {
		return []string{a}
	}
	var out []string
	now := []byte(a)
	for i := range now {
		if a[i] != 'x' || b[i] == 'x' {
			continue
		}
		now[i] = '0' + '1' - b[i]
		out = append(out, string(now))
		now[i] = b[i]
	}
	return out
}

func TestLessOfEveryTwo(t *testing.T) {
	for _, a := range cubePatterns() {
		for _, b := range cubePatterns() {
			if got, want := Less(toCube(a), toCube(b)), toCubes(difference(a, b)...); !slices.Equal(got, want) {
				t.Errorf("Less(%s, %s) = %x, want %x", a, b, got, want)
			}
		}
	}
}

// What Less answers has each header of the difference once, and no other.
func TestLessHasTheDifferenceOnce(t *testing.T) {
	for _, a := range cubePatterns() {
		for _, b := range cubePatterns() {
			less := Less(toCube(a), toCube(b))
			for _, h := range headPatterns() {
				times := 0
				for _, c := range less {
					if Has(c, toHead(h)) {
						times++
					}
				}
				if want := isIn(a, h) && !isIn(b, h); times > 1 || (times == 1) != want {
					t.Errorf("Less(%s, %s) has %s %d times", a, b, h, times)
				}
			}
		}
	}
}

func TestLessWrittenOut(t *testing.T) {
	for _, c := range []struct {
		a, b string
		want []string
	}{
		{"xxxx", "1010", []string{"0xxx", "11xx", "100x", "1011"}},
		{"x1xx", "x100", []string{"x11x", "x101"}},
		{"1xx0", "xx1x", []string{"1x00"}},
		{"1xxx", "0xxx", []string{"1xxx"}},
		{"1xxx", "xxxx", nil},
		{"10x1", "10x1", nil},
		{"10x1", "1xxx", nil},
	} {
		if got := Less(toCube(c.a), toCube(c.b)); !slices.Equal(got, toCubes(c.want...)) {
			t.Errorf("Less(%s, %s) = %x, want %s", c.a, c.b, got, c.want)
		}
	}
}

func TestLessOfOneHeaderFromAll(t *testing.T) {
	h := api.Head{Hi: 0xaaaaaaaaaaaaaaaa, Lo: 0x0123456789abcdef}
	got := Less(All(), api.Cube{Value: h, Care: api.Head{Hi: all, Lo: all}})
	if len(got) != 128 {
		t.Fatalf("%d cubes", len(got))
	}
	for i, c := range got {
		n := 127 - i
		care, _ := head.Mask(n, 128-n)
		want := api.Cube{Value: head.And(head.Xor(h, bit(n)), care), Care: care}
		if c != want {
			t.Errorf("cube %d is %x, want %x", i, c, want)
		}
	}
}

func TestLessAnswersNewMemory(t *testing.T) {
	for _, c := range [][2]string{{"1xxx", "0xxx"}, {"xxxx", "1010"}} {
		a, b := toCube(c[0]), toCube(c[1])
		first := Less(a, b)
		first = first[:cap(first)]
		for i := range first {
			first[i] = toCube("vvvv")
		}
		if got, want := Less(a, b), toCubes(difference(c[0], c[1])...); !slices.Equal(got, want) {
			t.Errorf("Less(%s, %s) = %x after a change of an earlier answer", c[0], c[1], got)
		}
	}
}

// soundAndNot are pairs of cubes of which one, or both, are not sound.
func soundAndNot() [][2]api.Cube {
	var out [][2]api.Cube
	for _, bad := range unsound() {
		out = append(out, [2]api.Cube{bad, bad})
		for _, good := range append(toCubes(cubePatterns()...), Make(bad.Value, bad.Care), Make(bad.Value, bad.Value)) {
			out = append(out, [2]api.Cube{bad, good}, [2]api.Cube{good, bad})
		}
	}
	return out
}

func TestUnsoundCubesHaveNothing(t *testing.T) {
	for _, c := range soundAndNot() {
		if got, ok := Meet(c[0], c[1]); got != (api.Cube{}) || ok {
			t.Errorf("Meet(%x) = %x, %t", c, got, ok)
		}
		if Within(c[0], c[1]) {
			t.Errorf("Within(%x) is true", c)
		}
		if got := Less(c[0], c[1]); len(got) != 0 {
			t.Errorf("Less(%x) = %x", c, got)
		}
	}
}

// A v in the pattern of a set is a bit that Make takes away, as if it were open.
func setPatterns() []string { return patterns("01xv", len(places())) }

func TestSetOfEveryTwo(t *testing.T) {
	other := api.Head{Hi: 0b0110, Lo: 0b1010}
	for _, h := range headPatterns() {
		for _, set := range setPatterns() {
			want := join(toHead(setTo(h, set)), other)
			if got := Set(join(toHead(h), other), toCube(set)); got != want {
				t.Errorf("Set(%s, %s) = %x, want %x", h, set, got, want)
			}
		}
	}
}

func TestSetWrittenOut(t *testing.T) {
	if got := Set(toHead("1100"), toCube("0xx1")); got != toHead("0101") {
		t.Errorf("%x", got)
	}
	if got := Set(toHead("0000"), toCube("vvvv")); got != toHead("0000") {
		t.Errorf("a set that is not sound: %x", got)
	}
	full := api.Head{Hi: all, Lo: all}
	if got := Set(full, api.Cube{Care: full}); got != (api.Head{}) {
		t.Errorf("all bits set to 0: %x", got)
	}
}

func TestBeforeOfEveryTwo(t *testing.T) {
	for _, c := range cubePatterns() {
		for _, set := range setPatterns() {
			p, want := cubeOf(headersWhere(func(h string) bool { return isIn(c, setTo(h, set)) }))
			var cube api.Cube
			if want {
				cube = toCube(p)
			}
			if got, ok := Before(toCube(c), toCube(set)); got != cube || ok != want {
				t.Errorf("Before(%s, %s) = %x, %t, want %s, %t", c, set, got, ok, p, want)
			}
		}
	}
}

func TestBeforeWrittenOut(t *testing.T) {
	if got, ok := Before(toCube("10x1"), toCube("1xx1")); got != toCube("x0xx") || !ok {
		t.Error(got, ok)
	}
	if got, ok := Before(toCube("10x1"), toCube("0xxx")); got != (api.Cube{}) || ok {
		t.Error("an empty preimage:", got, ok)
	}
	if got, ok := Before(toCube("00xx"), toCube("vxxx")); got != toCube("00xx") || !ok {
		t.Error("a set that is not sound:", got, ok)
	}
}

func TestAfterOfEveryTwo(t *testing.T) {
	for _, c := range cubePatterns() {
		for _, set := range setPatterns() {
			var image []string
			for _, h := range headersWhere(func(h string) bool { return isIn(c, h) }) {
				image = append(image, setTo(h, set))
			}
			want, _ := cubeOf(image)
			if got := After(toCube(c), toCube(set)); got != toCube(want) {
				t.Errorf("After(%s, %s) = %x, want %s", c, set, got, want)
			}
		}
	}
}

func TestAfterWrittenOut(t *testing.T) {
	if got := After(toCube("10xx"), toCube("0x1x")); got != toCube("001x") {
		t.Errorf("%x", got)
	}
	if got := After(toCube("xxx1"), toCube("vxvx")); got != toCube("xxx1") {
		t.Errorf("a set that is not sound: %x", got)
	}
}

func TestBeforeAndAfterOfUnsound(t *testing.T) {
	for _, c := range unsound() {
		for _, set := range append(toCubes(setPatterns()...), Make(c.Value, c.Value), c) {
			if got, ok := Before(c, set); got != (api.Cube{}) || ok {
				t.Errorf("Before(%x, %x) = %x, %t", c, set, got, ok)
			}
			if got := After(c, set); got != All() {
				t.Errorf("After(%x, %x) = %x", c, set, got)
			}
		}
	}
}
