// Package threebits is for tests: cubes of so few bits that all their headers can be tried one by one.
package threebits

import (
	"strings"

	"customhouse/api"
)

// Heads is how many headers there are of three bits.
const Heads = 8

// Head spreads three bits to where they are apart in a header: to both its ends, and to where its halves meet.
func Head(n uint64) api.Head {
	return api.Head{Hi: n>>2&1<<63 | n>>1&1, Lo: n & 1}
}

// Cube is the cube of a pattern of three letters: 0 and 1 are fixed, x is open, and v is a bit of Value that Care does not have, which makes the cube unsound.
func Cube(pattern string) api.Cube {
	var value, care uint64
	for _, letter := range pattern {
		value, care = value<<1, care<<1
		if letter == '1' || letter == 'v' {
			value |= 1
		}
		if letter == '0' || letter == '1' {
			care |= 1
		}
	}
	return api.Cube{Value: Head(value), Care: Head(care)}
}

// Cubes are the cubes of some patterns; a text may hold several of them.
func Cubes(patterns ...string) []api.Cube {
	var out []api.Cube
	for _, p := range strings.Fields(strings.Join(patterns, " ")) {
		out = append(out, Cube(p))
	}
	return out
}

// All are all cubes of three of the letters.
func All(letters string) []api.Cube {
	var out []api.Cube
	for _, a := range letters {
		for _, b := range letters {
			for _, c := range letters {
				out = append(out, Cube(string([]rune{a, b, c})))
			}
		}
	}
	return out
}
