package head

import (
	"math"
	"math/big"
	"testing"

	"customhouse/api"
)

const all = math.MaxUint64

// heads are headers whose bits differ at the ends and at the middle, where the two halves meet.
func heads() []api.Head {
	return []api.Head{
		{},
		{Lo: 1},
		{Hi: 1},
		{Lo: 1 << 63},
		{Hi: 1 << 63},
		{Lo: all},
		{Hi: all},
		{Hi: all, Lo: all},
		{Hi: 12, Lo: 10},
		{Hi: 10, Lo: 12},
		{Hi: 0x0123456789abcdef, Lo: 0xfedcba9876543210},
		{Hi: 0xaaaaaaaaaaaaaaaa, Lo: 0x5555555555555555},
	}
}

// number is the header as a number that the tests can reckon with independently of the package.
func number(a api.Head) *big.Int {
	n := new(big.Int).SetUint64(a.Hi)
	return n.Lsh(n, 64).Or(n, new(big.Int).SetUint64(a.Lo))
}

func header(n *big.Int) api.Head {
	low := new(big.Int).SetUint64(all)
	return api.Head{Hi: new(big.Int).Rsh(n, 64).Uint64(), Lo: low.And(low, n).Uint64()}
}

// field is the number with exactly these bits 1.
func field(at, bits int) *big.Int {
	n := big.NewInt(1)
	n.Lsh(n, uint(bits)).Sub(n, big.NewInt(1))
	return n.Lsh(n, uint(at))
}

func TestBitwise(t *testing.T) {
	for _, op := range []struct {
		name string
		do   func(a, b api.Head) api.Head
		want func(z, x, y *big.Int) *big.Int
	}{
		{"And", And, (*big.Int).And},
		{"Or", Or, (*big.Int).Or},
		{"Xor", Xor, (*big.Int).Xor},
		{"Less", Less, (*big.Int).AndNot},
	} {
		for _, a := range heads() {
			for _, b := range heads() {
				want := header(op.want(new(big.Int), number(a), number(b)))
				if got := op.do(a, b); got != want {
					t.Errorf("%s(%x, %x) = %x, want %x", op.name, a, b, got, want)
				}
			}
		}
	}
}

func TestBitwiseWrittenOut(t *testing.T) {
	a, b := api.Head{Hi: 0b1100, Lo: 0b1010}, api.Head{Hi: 0b1010, Lo: 0b0011}
	for _, c := range []struct {
		name      string
		got, want api.Head
	}{
		{"And", And(a, b), api.Head{Hi: 0b1000, Lo: 0b0010}},
		{"Or", Or(a, b), api.Head{Hi: 0b1110, Lo: 0b1011}},
		{"Xor", Xor(a, b), api.Head{Hi: 0b0110, Lo: 0b1001}},
		{"Less", Less(a, b), api.Head{Hi: 0b0100, Lo: 0b1000}},
	} {
		if c.got != c.want {
			t.Errorf("%s = %b, want %b", c.name, c.got, c.want)
		}
	}
}

func TestOnes(t *testing.T) {
	for _, c := range []struct {
		a    api.Head
		want int
	}{
		{api.Head{}, 0},
		{api.Head{Lo: 1}, 1},
		{api.Head{Hi: 1 << 63}, 1},
		{api.Head{Hi: 7, Lo: 3}, 5},
		{api.Head{Lo: all}, 64},
		{api.Head{Hi: all}, 64},
		{api.Head{Hi: all, Lo: all}, 128},
	} {
		if got := Ones(c.a); got != c.want {
			t.Errorf("Ones(%x) = %d, want %d", c.a, got, c.want)
		}
	}
}

func TestBit(t *testing.T) {
	for _, a := range heads() {
		for n := range 128 {
			if got, want := Bit(a, n), number(a).Bit(n) == 1; got != want {
				t.Errorf("Bit(%x, %d) = %t, want %t", a, n, got, want)
			}
		}
	}
}

func TestBitOutsideIsFalse(t *testing.T) {
	full := api.Head{Hi: all, Lo: all}
	for _, n := range []int{math.MinInt, math.MinInt + 1, -128, -64, -1, 128, 129, 192, 256, math.MaxInt} {
		if Bit(full, n) {
			t.Errorf("Bit(%d) is true", n)
		}
	}
}

func TestCompare(t *testing.T) {
	for _, a := range heads() {
		for _, b := range heads() {
			if got, want := Compare(a, b), number(a).Cmp(number(b)); got != want {
				t.Errorf("Compare(%x, %x) = %d, want %d", a, b, got, want)
			}
		}
	}
}

func TestCompareLooksAtTheHighHalfFirst(t *testing.T) {
	low, high := api.Head{Hi: 1, Lo: all}, api.Head{Hi: 2}
	if Compare(low, high) != -1 || Compare(high, low) != 1 || Compare(low, low) != 0 {
		t.Error(Compare(low, high), Compare(high, low), Compare(low, low))
	}
}

// badFields are no fields of a header: negative, too far, or with a sum that wraps round.
func badFields() [][2]int {
	return [][2]int{
		{-1, 0}, {-1, 1}, {-1, 2}, {0, -1}, {5, -1}, {128, -1}, {-1, -1}, {129, -1}, {-1, 129},
		{127, 2}, {128, 1}, {129, 0}, {65, 64}, {100, 29},
		{math.MinInt, 0}, {0, math.MinInt}, {math.MinInt, math.MinInt}, {math.MinInt, math.MaxInt},
		{math.MaxInt, 0}, {0, math.MaxInt}, {math.MaxInt, 1}, {1, math.MaxInt}, {128, math.MaxInt},
		{math.MaxInt, math.MaxInt}, {1 << 62, 1 << 62},
	}
}

func TestMaskOfEveryField(t *testing.T) {
	for at := range 129 {
		for bits := range 129 - at {
			want := header(field(at, bits))
			if got, e := Mask(at, bits); got != want || e != api.OK {
				t.Errorf("Mask(%d, %d) = %x, %d, want %x", at, bits, got, e, want)
			}
		}
	}
}

func TestMaskOfTheNamedFields(t *testing.T) {
	for _, c := range []struct {
		at, bits int
		want     api.Head
	}{
		{api.DstAt, api.DstBits, api.Head{Lo: 0x00000000ffffffff}},
		{api.SrcAt, api.SrcBits, api.Head{Lo: 0xffffffff00000000}},
		{api.AppAt, api.AppBits, api.Head{Hi: 0x000000000000ffff}},
		{api.KindAt, api.KindBits, api.Head{Hi: 0x0000000000ff0000}},
		{api.NetAt, api.NetBits, api.Head{Hi: 0x0000ffffff000000}},
		{api.TagAt, api.TagBits, api.Head{Hi: 0x00ff000000000000}},
		{api.MarkAt, api.MarkBits, api.Head{Hi: 0xff00000000000000}},
	} {
		if got, e := Mask(c.at, c.bits); got != c.want || e != api.OK {
			t.Errorf("Mask(%d, %d) = %x, %d, want %x", c.at, c.bits, got, e, c.want)
		}
	}
}

func TestMaskRefuses(t *testing.T) {
	for _, c := range badFields() {
		if got, e := Mask(c[0], c[1]); got != (api.Head{}) || e != api.ErrArg {
			t.Errorf("Mask(%d, %d) = %x, %d", c[0], c[1], got, e)
		}
	}
}

func TestGetOfEveryField(t *testing.T) {
	for _, a := range heads() {
		for at := range 129 {
			for bits := range min(129-at, 65) {
				n := number(a)
				want := n.And(n, field(at, bits)).Rsh(n, uint(at)).Uint64()
				if got, e := Get(a, at, bits); got != want || e != api.OK {
					t.Errorf("Get(%x, %d, %d) = %x, %d, want %x", a, at, bits, got, e, want)
				}
			}
		}
	}
}

func TestGetAcrossTheHalves(t *testing.T) {
	a := api.Head{Hi: 0b101, Lo: 0b11 << 62}
	if got, e := Get(a, 62, 5); got != 0b10111 || e != api.OK {
		t.Errorf("%b, %d", got, e)
	}
}

// badNumbers are the bad fields, and fields of a header that a uint64 doesn't hold.
func badNumbers() [][2]int {
	return append(badFields(), [2]int{0, 65}, [2]int{63, 65}, [2]int{0, 128}, [2]int{64, 65})
}

func TestGetRefuses(t *testing.T) {
	for _, c := range badNumbers() {
		if got, e := Get(api.Head{Hi: all, Lo: all}, c[0], c[1]); got != 0 || e != api.ErrArg {
			t.Errorf("Get(%d, %d) = %x, %d", c[0], c[1], got, e)
		}
	}
}

// put is what Put has to answer where it has no error to tell.
func put(a api.Head, at, bits int, v uint64) api.Head {
	n, set := number(a), new(big.Int).SetUint64(v)
	return header(n.AndNot(n, field(at, bits)).Or(n, set.Lsh(set, uint(at))))
}

func TestPutOfEveryField(t *testing.T) {
	for _, a := range heads() {
		for at := range 129 {
			for bits := range min(129-at, 65) {
				top := field(0, bits).Uint64()
				for _, v := range []uint64{0, top, top &^ 1, top & 0x9e3779b97f4a7c15} {
					want := put(a, at, bits, v)
					if got, e := Put(a, at, bits, v); got != want || e != api.OK {
						t.Errorf("Put(%x, %d, %d, %x) = %x, %d, want %x", a, at, bits, v, got, e, want)
					}
				}
			}
		}
	}
}

func TestPutOfTheNamedFields(t *testing.T) {
	full := api.Head{Hi: all, Lo: all}
	for _, c := range []struct {
		at, bits int
		v        uint64
		want     api.Head
	}{
		{api.DstAt, api.DstBits, 7, api.Head{Hi: all, Lo: 0xffffffff00000007}},
		{api.SrcAt, api.SrcBits, 7, api.Head{Hi: all, Lo: 0x00000007ffffffff}},
		{api.NetAt, api.NetBits, 0x123456, api.Head{Hi: 0xffff123456ffffff, Lo: all}},
		{api.MarkAt, api.MarkBits, 0, api.Head{Hi: 0x00ffffffffffffff, Lo: all}},
	} {
		if got, e := Put(full, c.at, c.bits, c.v); got != c.want || e != api.OK {
			t.Errorf("Put(%d, %d, %x) = %x, %d, want %x", c.at, c.bits, c.v, got, e, c.want)
		}
	}
}

func TestPutRefusesWhatDoesNotFit(t *testing.T) {
	a := api.Head{Hi: 3, Lo: 5}
	for at := range 129 {
		for bits := range min(129-at, 64) {
			for _, v := range []uint64{1 << bits, 1<<bits | 1, 1 << 63, all} {
				if got, e := Put(a, at, bits, v); got != (api.Head{}) || e != api.ErrRange {
					t.Errorf("Put(%d, %d, %x) = %x, %d", at, bits, v, got, e)
				}
			}
		}
	}
}

// Where the field is wrong, that is told, whether v would fit or not: ErrArg is named first.
func TestPutRefusesBadFieldsFirst(t *testing.T) {
	for _, c := range badNumbers() {
		for _, v := range []uint64{0, 1, all} {
			if got, e := Put(api.Head{Hi: all, Lo: all}, c[0], c[1], v); got != (api.Head{}) || e != api.ErrArg {
				t.Errorf("Put(%d, %d, %x) = %x, %d", c[0], c[1], v, got, e)
			}
		}
	}
}
