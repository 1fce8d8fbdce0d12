// Package head is headers of 128 bits.
package head

import (
	"cmp"
	"math/bits"

	"customhouse/api"
)

const (
	headBits = 128
	halfBits = 64
)

// half is 64 of a header's bits. What goes bit by bit is a method of half, so that one function can do it to both halves.
type half uint64

func (h half) and(other half) half { return h & other }

func (h half) or(other half) half { return h | other }

func (h half) xor(other half) half { return h ^ other }

func (h half) less(other half) half { return h &^ other }

// onBoth does to both halves what goes bit by bit.
func onBoth(do func(half, half) half, a, b api.Head) api.Head {
	return api.Head{
		Hi: uint64(do(half(a.Hi), half(b.Hi))),
		Lo: uint64(do(half(a.Lo), half(b.Lo))),
	}
}

// And: bits that are in both.
func And(a, b api.Head) api.Head { return onBoth(half.and, a, b) }

// Or: bits that are in one of them.
func Or(a, b api.Head) api.Head { return onBoth(half.or, a, b) }

// Xor: bits that are in just one of them.
func Xor(a, b api.Head) api.Head { return onBoth(half.xor, a, b) }

// Less: bits that are in the first one alone.
func Less(a, b api.Head) api.Head { return onBoth(half.less, a, b) }

// Ones: how many bits are 1.
func Ones(a api.Head) int {
	return bits.OnesCount64(a.Hi) + bits.OnesCount64(a.Lo)
}

// Bit: the one with a number.
func Bit(a api.Head, n int) bool {
	return n >= 0 && n < headBits && shiftedDown(a, n)&1 == 1
}

// Mask: so many bits from one on.
func Mask(at, bits int) (api.Head, api.Errno) {
	if !isField(at, bits) {
		return api.Head{}, api.ErrArg
	}
	return Less(below(at+bits), below(at)), api.OK
}

// Get: what a field has.
func Get(a api.Head, at, bits int) (uint64, api.Errno) {
	if !isNumber(at, bits) {
		return 0, api.ErrArg
	}
	return shiftedDown(a, at) & lowest(bits), api.OK
}

// Put: a header whose field has something.
func Put(a api.Head, at, bits int, v uint64) (api.Head, api.Errno) {
	if !isNumber(at, bits) {
		return api.Head{}, api.ErrArg
	}
	if v > lowest(bits) {
		return api.Head{}, api.ErrRange
	}
	return Or(Less(a, shiftedUp(lowest(bits), at)), shiftedUp(v, at)), api.OK
}

// Compare: as numbers: below 0, 0, above 0.
func Compare(a, b api.Head) int {
	return cmp.Or(cmp.Compare(a.Hi, b.Hi), cmp.Compare(a.Lo, b.Lo))
}

// isField tells whether a header has these bits. The sum at + bits is not made, as it may wrap round.
func isField(at, bits int) bool {
	return at >= 0 && bits >= 0 && bits <= headBits-at
}

// isNumber tells whether a header has these bits and a uint64 holds them.
func isNumber(at, bits int) bool {
	return isField(at, bits) && bits <= halfBits
}

// lowest is the lowest n bits, for n from 0 to 64: a shift by 64 gives 0, and 0 - 1 is all bits.
func lowest(n int) uint64 { return uint64(1)<<n - 1 }

// below is all bits of a header below bit n, for n from 0 to 128.
func below(n int) api.Head {
	return api.Head{Hi: lowest(max(n-halfBits, 0)), Lo: lowest(min(n, halfBits))}
}

// shiftedDown is the 64 bits of a header from bit n on, for n from 0 to 128; bits above 127 are 0.
func shiftedDown(a api.Head, n int) uint64 {
	if n >= halfBits {
		return a.Hi >> (n - halfBits)
	}
	return a.Lo>>n | a.Hi<<(halfBits-n)
}

// shiftedUp is the header whose bits from bit n on are v's, for n from 0 to 128; bits above 127 are lost.
func shiftedUp(v uint64, n int) api.Head {
	if n >= halfBits {
		return api.Head{Hi: v << (n - halfBits)}
	}
	return api.Head{Hi: v >> (halfBits - n), Lo: v << n}
}
