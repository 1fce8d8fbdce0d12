package ids

import (
	"math"
	"slices"
	"testing"
)

// universe is the numbers of most tests, in increasing order: the extreme ones, whose differences an int does not hold, and some close together.
func universe() []int { return []int{math.MinInt, -1, 0, math.MaxInt} }

// lists are all lists of at most so many numbers of the universe, in any order and with repetitions.
func lists(most int) [][]int {
	out := [][]int{nil}
	for from := 0; most > 0; most-- {
		until := len(out)
		for _, shorter := range out[from:until] {
			for _, n := range universe() {
				out = append(out, append(slices.Clone(shorter), n))
			}
		}
		from = until
	}
	return out
}

// isIn tells number by number whether n is in a list.
func isIn(list []int, n int) bool {
	for _, m := range list {
		if m == n {
			return true
		}
	}
	return false
}

// those are the numbers of the universe that pass a test: in increasing order, each once.
func those(passes func(int) bool) []int {
	var out []int
	for _, n := range universe() {
		if passes(n) {
			out = append(out, n)
		}
	}
	return out
}

func setByHand(list []int) []int { return those(func(n int) bool { return isIn(list, n) }) }

// compareByHand is Compare of two sets as the chapter tells it.
func compareByHand(a, b []int) int {
	for n := range min(len(a), len(b)) {
		if a[n] < b[n] {
			return -1
		}
		if a[n] > b[n] {
			return 1
		}
	}
	switch {
	case len(a) < len(b):
		return -1
	case len(a) > len(b):
		return 1
	}
	return 0
}

func TestListsAreAll(t *testing.T) {
	if got := len(lists(4)); got != 1+4+16+64+256 {
		t.Fatal(got)
	}
}

func TestSound(t *testing.T) {
	for _, a := range lists(4) {
		if want := slices.Equal(a, setByHand(a)); Sound(a) != want {
			t.Errorf("%v: not %v", a, want)
		}
	}
}

func TestSoundByHand(t *testing.T) {
	for _, a := range [][]int{nil, {}, {7}, {math.MinInt}, {-3, 1, 5}, {1, 2, 3}, {math.MinInt, math.MaxInt}} {
		if !Sound(a) {
			t.Errorf("%v is not sound", a)
		}
	}
	for _, a := range [][]int{{1, 1}, {2, 1}, {9, 1, 1}, {1, 2, 2}, {1, 2, 1}, {2, 1, 3}, {1, 1, 2}, {math.MaxInt, math.MinInt}, {1, 2, 3, 4, 4}} {
		if Sound(a) {
			t.Errorf("%v is sound", a)
		}
	}
}

// A single pair that is not increasing shows wherever it stands.
func TestSoundOfLongLists(t *testing.T) {
	const length = 300
	var long []int
	for n := range length {
		long = append(long, 2*n-length)
	}
	if !Sound(long) {
		t.Error("increasing numbers are not sound")
	}
	for n := range length - 1 {
		equal, swapped := slices.Clone(long), slices.Clone(long)
		equal[n+1] = equal[n]
		swapped[n], swapped[n+1] = swapped[n+1], swapped[n]
		if Sound(equal) || Sound(swapped) {
			t.Errorf("places %d and %d", n, n+1)
		}
	}
}

func TestMake(t *testing.T) {
	for _, a := range lists(5) {
		if got := Make(a...); !slices.Equal(got, setByHand(a)) {
			t.Errorf("%v: %v", a, got)
		}
	}
}

func TestMakeByHand(t *testing.T) {
	for _, c := range []struct{ got, want []int }{
		{Make(), nil},
		{Make([]int{}...), nil},
		{Make(4), []int{4}},
		{Make(4, 4, 4), []int{4}},
		{Make(5, 1, 5, -3), []int{-3, 1, 5}},
		{Make(3, 2, 1), []int{1, 2, 3}},
		{Make(math.MaxInt, 0, math.MinInt, math.MaxInt), []int{math.MinInt, 0, math.MaxInt}},
	} {
		if !slices.Equal(c.got, c.want) || !Sound(c.got) {
			t.Errorf("%v, not %v", c.got, c.want)
		}
	}
}

func TestHas(t *testing.T) {
	for _, a := range lists(4) {
		for _, n := range append(universe(), 1, -2, math.MinInt+1, math.MaxInt-1) {
			if Has(a, n) != isIn(a, n) {
				t.Errorf("%d in %v", n, a)
			}
		}
	}
}

// The lists of these tests are sound, out of order, and with repetitions, on either side.
func TestJoinMeetLess(t *testing.T) {
	for _, a := range lists(4) {
		for _, b := range lists(4) {
			joined := those(func(n int) bool { return isIn(a, n) || isIn(b, n) })
			met := those(func(n int) bool { return isIn(a, n) && isIn(b, n) })
			left := those(func(n int) bool { return isIn(a, n) && !isIn(b, n) })
			if got := Join(a, b); !slices.Equal(got, joined) {
				t.Fatalf("Join of %v and %v: %v", a, b, got)
			}
			if got := Meet(a, b); !slices.Equal(got, met) {
				t.Fatalf("Meet of %v and %v: %v", a, b, got)
			}
			if got := Less(a, b); !slices.Equal(got, left) {
				t.Fatalf("Less of %v and %v: %v", a, b, got)
			}
		}
	}
}

func TestJoinMeetLessByHand(t *testing.T) {
	sound, not := []int{-3, 1, 5}, []int{9, 1, 1}
	for _, c := range []struct {
		name      string
		got, want []int
	}{
		{"Join", Join(sound, not), []int{-3, 1, 5, 9}},
		{"Join", Join(not, sound), []int{-3, 1, 5, 9}},
		{"Join", Join(not, nil), []int{1, 9}},
		{"Join", Join([]int{}, not), []int{1, 9}},
		{"Join", Join(not, not), []int{1, 9}},
		{"Meet", Meet(sound, not), []int{1}},
		{"Meet", Meet(not, sound), []int{1}},
		{"Meet", Meet(not, not), []int{1, 9}},
		{"Meet", Meet(not, nil), nil},
		{"Meet", Meet(nil, not), nil},
		{"Less", Less(sound, not), []int{-3, 5}},
		{"Less", Less(not, sound), []int{9}},
		{"Less", Less(not, nil), []int{1, 9}},
		{"Less", Less(nil, not), nil},
		{"Less", Less(not, not), nil},
	} {
		if !slices.Equal(c.got, c.want) {
			t.Errorf("%s: %v, not %v", c.name, c.got, c.want)
		}
	}
}

func TestCompare(t *testing.T) {
	for _, a := range lists(4) {
		for _, b := range lists(4) {
			if got, want := Compare(a, b), compareByHand(setByHand(a), setByHand(b)); got != want {
				t.Fatalf("%v and %v: %d, not %d", a, b, got, want)
			}
		}
	}
}

// The sets stand in the order that Compare must see in them; behind each, lists that are not sound and have the same set.
func TestCompareByHand(t *testing.T) {
	rising := [][][]int{
		{nil, {}},
		{{math.MinInt}, {math.MinInt, math.MinInt}},
		{{math.MinInt, math.MaxInt}, {math.MaxInt, math.MinInt}},
		{{-7}},
		{{-7, -6}, {-6, -7, -6}},
		{{1}, {1, 1, 1}},
		{{1, 2}, {2, 1}},
		{{1, 2, 3}, {3, 2, 1}},
		{{1, 2, math.MaxInt}, {math.MaxInt, 2, 1}},
		{{1, 3}, {3, 1}, {3, 1, 3}},
		{{2}, {2, 2}},
		{{2, 3}},
		{{3}},
		{{math.MaxInt}},
	}
	for i, as := range rising {
		for j, bs := range rising {
			for _, a := range as {
				for _, b := range bs {
					if got, want := Compare(a, b), compareByHand([]int{i}, []int{j}); got != want {
						t.Errorf("%v and %v: %d, not %d", a, b, got, want)
					}
				}
			}
		}
	}
}

// steps are the numbers from first on that lie a step apart, below a bound.
func steps(first, step, below int) []int {
	var out []int
	for n := first; n < below; n += step {
		out = append(out, n)
	}
	return out
}

// shuffled is a list out of order, with each number twice.
func shuffled(list []int) []int {
	var out []int
	for n := range 2 * len(list) {
		out = append(out, list[n*7919%len(list)])
	}
	return out
}

func TestLongLists(t *testing.T) {
	const below = 5000
	twos, threes := steps(0, 2, below), steps(0, 3, below)
	var joined, left []int
	for n := range below {
		if n%2 == 0 || n%3 == 0 {
			joined = append(joined, n)
		}
		if n%2 == 0 && n%3 != 0 {
			left = append(left, n)
		}
	}
	for _, a := range [][]int{twos, shuffled(twos)} {
		for _, b := range [][]int{threes, shuffled(threes)} {
			if !slices.Equal(Make(a...), twos) || !slices.Equal(Join(a, b), joined) || !slices.Equal(Meet(a, b), steps(0, 6, below)) || !slices.Equal(Less(a, b), left) {
				t.Error("Make, Join, Meet or Less of long lists")
			}
			if Compare(a, b) != -1 || Compare(b, a) != 1 || Compare(a, twos) != 0 || Compare(a, twos[:len(twos)-1]) != 1 || Compare(twos[:len(twos)-1], a) != -1 {
				t.Error("Compare of long lists")
			}
			for n := -1; n <= below; n++ {
				if want := n >= 0 && n < below && n%2 == 0; Has(a, n) != want {
					t.Errorf("Has %d: not %v", n, want)
				}
			}
		}
	}
}

// answers are the results of all calls that answer a list.
func answers(a, b []int) [][]int {
	return [][]int{Make(a...), Make(b...), Join(a, b), Join(b, a), Join(a, a), Meet(a, b), Meet(b, a), Meet(a, a), Less(a, b), Less(b, a), Less(a, a)}
}

// memories are pairs of lists with spare capacity, sound and not, equal and disjoint, and empty, cut out of a memory of their own.
func memories() [][2][]int {
	var out [][2][]int
	for _, a := range [][]int{{}, {2}, {1, 2, 3}, {3, 1, 3}, {4, 4}} {
		for _, b := range [][]int{{}, {2}, {1, 2, 3}, {7, 2}, {5, 6}} {
			out = append(out, [2][]int{a, b})
		}
	}
	return out
}

// padded is a memory with a list in it, ahead of and behind which something else stands.
func padded(list []int) (memory, inside []int) {
	memory = slices.Concat([]int{-8, -9}, list, []int{-5, -5, -4, -3, -2, -1})
	return memory, memory[2 : 2+len(list)]
}

func TestArgumentsAreNotChanged(t *testing.T) {
	for _, pair := range memories() {
		first, a := padded(pair[0])
		second, b := padded(pair[1])
		ahead, behind := slices.Clone(first), slices.Clone(second)
		answers(a, b)
		Sound(a)
		Has(a, 2)
		Compare(a, b)
		Compare(b, a)
		if !slices.Equal(first, ahead) || !slices.Equal(second, behind) {
			t.Errorf("%v and %v were changed", pair[0], pair[1])
		}
	}
}

func TestResultsShareNoMemory(t *testing.T) {
	for _, pair := range memories() {
		first, a := padded(pair[0])
		second, b := padded(pair[1])
		ahead, behind := slices.Clone(first), slices.Clone(second)
		results, others := answers(a, b), answers(a, b)
		var wants [][]int
		for _, r := range results {
			wants = append(wants, slices.Clone(r))
		}
		for n, r := range results {
			if !slices.Equal(r, wants[n]) {
				t.Fatalf("of %v and %v, result %d shares memory with another one", pair[0], pair[1], n)
			}
			whole := r[:cap(r)]
			for i := range whole {
				whole[i] = 1000 + n
			}
		}
		for n := range others {
			if i := slices.IndexFunc(results[n], func(m int) bool { return m != 1000+n }); i >= 0 {
				t.Errorf("of %v and %v, result %d shares memory with a later one", pair[0], pair[1], n)
			}
			if !slices.Equal(others[n], wants[n]) {
				t.Errorf("of %v and %v, result %d shares memory with that of another call", pair[0], pair[1], n)
			}
		}
		if !slices.Equal(first, ahead) || !slices.Equal(second, behind) {
			t.Errorf("%v and %v share memory with a result", pair[0], pair[1])
		}
	}
}

// What an argument becomes after a call does not show in the call's results.
func TestResultsOutlastTheirArguments(t *testing.T) {
	for _, pair := range memories() {
		first, a := padded(pair[0])
		second, b := padded(pair[1])
		results, wants := answers(a, b), answers(slices.Clone(pair[0]), slices.Clone(pair[1]))
		for n := range first {
			first[n] = 2000
		}
		for n := range second {
			second[n] = 3000
		}
		for n, r := range results {
			if !slices.Equal(r, wants[n]) {
				t.Errorf("of %v and %v, result %d is now %v", pair[0], pair[1], n, r)
			}
		}
	}
}
