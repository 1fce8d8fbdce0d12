package delta

import (
	"math"
	"math/rand"
	"reflect"
	"slices"
	"testing"

	"customhouse/api"
	"customhouse/cube"
)

// named is a rule that stands for a letter.
func named(letter rune) api.Rule {
	return api.Rule{Priority: int(letter), Do: api.Do{Kind: api.Drop}}
}

// listed is a rule for each letter.
func listed(letters string) []api.Rule {
	var out []api.Rule
	for _, letter := range letters {
		out = append(out, named(letter))
	}
	return out
}

// letters is the text of which a list is made.
func letters(list []api.Rule) string {
	var out []rune
	for _, r := range list {
		letter := rune(r.Priority)
		if r != named(letter) {
			letter = '?'
		}
		out = append(out, letter)
	}
	return string(out)
}

// put is the change that brings a letter's rule, and cut the one by which a rule goes.
func put(number, table, at int, letter rune) api.Edit {
	return api.Edit{Switch: number, Table: table, At: at, Rule: named(letter)}
}

func cut(number, table, at int) api.Edit {
	return api.Edit{Switch: number, Table: table, At: at, Gone: true}
}

// conf has, for each switch, tables of letters; its topology and its policy are about other switches.
func conf(switches ...[]string) api.Config {
	c := api.Config{
		Topo:   api.Topo{Ports: [][]api.Port{{{Kind: api.Edge, Tenant: 1}, {}}}},
		Policy: api.Policy{Tenants: 2, Peers: [][2]int{{0, 1}}, Ways: []api.Way{{From: 1, Via: 7}}},
	}
	for _, texts := range switches {
		tables := [][]api.Rule{}
		for _, text := range texts {
			tables = append(tables, listed(text))
		}
		c.Tables = append(c.Tables, tables)
	}
	return c
}

// texts is the tables of a configuration as conf takes them.
func texts(c api.Config) [][]string {
	out := [][]string{}
	for _, tables := range c.Tables {
		one := []string{}
		for _, list := range tables {
			one = append(one, letters(list))
		}
		out = append(out, one)
	}
	return out
}

// sameButTables tells whether the rest of two configurations is one.
func sameButTables(a, b api.Config) bool {
	a.Tables, b.Tables = nil, nil
	return reflect.DeepEqual(a, b)
}

// isZero tells whether a configuration is as it must be with an error.
func isZero(c api.Config) bool { return reflect.DeepEqual(c, api.Config{}) }

// applyByHand is Apply in the chapter's words, for tables of letters.
func applyByHand(tables [][]string, list []api.Edit) ([][]string, api.Errno) {
	now := [][]string{}
	for _, one := range tables {
		now = append(now, append([]string{}, one...))
	}
	for _, edit := range list {
		if edit.Switch < 0 || edit.Switch >= len(now) || edit.Table < 0 || edit.Table >= len(now[edit.Switch]) {
			return nil, api.ErrRange
		}
		text := now[edit.Switch][edit.Table]
		switch {
		case edit.Gone && (edit.At < 0 || edit.At >= len(text)):
			return nil, api.ErrRange
		case !edit.Gone && (edit.At < 0 || edit.At > len(text)):
			return nil, api.ErrRange
		case edit.Gone && edit.Rule != (api.Rule{}):
			return nil, api.ErrArg
		case edit.Gone:
			now[edit.Switch][edit.Table] = text[:edit.At] + text[edit.At+1:]
		default:
			now[edit.Switch][edit.Table] = text[:edit.At] + string(rune(edit.Rule.Priority)) + text[edit.At:]
		}
	}
	return now, api.OK
}

// backByHand is Back in the chapter's words, for tables of letters and changes that can be made.
func backByHand(tables [][]string, list []api.Edit) []api.Edit {
	var out []api.Edit
	for n := len(list) - 1; n >= 0; n-- {
		edit := list[n]
		ahead, _ := applyByHand(tables, list[:n])
		if edit.Gone {
			letter := ahead[edit.Switch][edit.Table][edit.At]
			out = append(out, put(edit.Switch, edit.Table, edit.At, rune(letter)))
		} else {
			out = append(out, cut(edit.Switch, edit.Table, edit.At))
		}
	}
	return out
}

// diffByHand is the changes of one table in the chapter's words.
func diffByHand(number, table int, a, b string) []api.Edit {
	prefix, suffix := 0, 0
	for n := 0; n <= len(a) && n <= len(b); n++ {
		if a[:n] == b[:n] {
			prefix = n
		}
	}
	a, b = a[prefix:], b[prefix:]
	for n := 0; n <= len(a) && n <= len(b); n++ {
		if a[len(a)-n:] == b[len(b)-n:] {
			suffix = n
		}
	}
	var out []api.Edit
	for n := len(a) - suffix - 1; n >= 0; n-- {
		out = append(out, cut(number, table, prefix+n))
	}
	for n := 0; n < len(b)-suffix; n++ {
		out = append(out, put(number, table, prefix+n, rune(b[n])))
	}
	return out
}

// holdsFor holds Apply and Back against the chapter's words.
func holdsFor(t *testing.T, switches [][]string, list ...api.Edit) {
	t.Helper()
	c := conf(switches...)
	want, wantError := applyByHand(switches, list)
	got, e := Apply(c, list...)
	back, backError := Back(c, list...)
	if e != wantError || backError != wantError {
		t.Fatalf("%q, %+v: errors %d and %d, not %d", switches, list, e, backError, wantError)
	}
	if e != api.OK {
		if !isZero(got) || len(back) != 0 {
			t.Fatalf("%q, %+v: results beside error %d", switches, list, e)
		}
		return
	}
	if !reflect.DeepEqual(texts(got), want) || !sameButTables(got, c) {
		t.Fatalf("%q, %+v: %q, not %q", switches, list, texts(got), want)
	}
	if !slices.Equal(back, backByHand(switches, list)) {
		t.Fatalf("%q, %+v: back by %+v", switches, list, back)
	}
	again, e := Apply(got, back...)
	if e != api.OK || !reflect.DeepEqual(texts(again), texts(c)) || !sameButTables(again, c) {
		t.Fatalf("%q, %+v: back at %q, error %d", switches, list, texts(again), e)
	}
}

func TestApplyWrittenOut(t *testing.T) {
	for n, x := range []struct {
		from string
		list []api.Edit
		want string
	}{
		{"abc", nil, "abc"},
		{"abc", []api.Edit{cut(0, 0, 0)}, "bc"},
		{"abc", []api.Edit{cut(0, 0, 1)}, "ac"},
		{"abc", []api.Edit{cut(0, 0, 2)}, "ab"},
		{"abc", []api.Edit{put(0, 0, 0, 'x')}, "xabc"},
		{"abc", []api.Edit{put(0, 0, 1, 'x')}, "axbc"},
		{"abc", []api.Edit{put(0, 0, 3, 'x')}, "abcx"},
		{"abc", []api.Edit{put(0, 0, 1, 'x'), put(0, 0, 1, 'y')}, "ayxbc"},
		{"abc", []api.Edit{put(0, 0, 1, 'x'), put(0, 0, 2, 'y')}, "axybc"},
		{"abc", []api.Edit{cut(0, 0, 0), cut(0, 0, 1)}, "b"},
		{"abc", []api.Edit{cut(0, 0, 0), put(0, 0, 2, 'x')}, "bcx"},
		{"abc", []api.Edit{put(0, 0, 3, 'x'), cut(0, 0, 3)}, "abc"},
		{"a", []api.Edit{cut(0, 0, 0)}, ""},
		{"", []api.Edit{put(0, 0, 0, 'x')}, "x"},
		{"", []api.Edit{put(0, 0, 0, 'x'), put(0, 0, 1, 'y'), cut(0, 0, 0)}, "y"},
	} {
		c, e := Apply(conf([]string{x.from}), x.list...)
		if e != api.OK || letters(c.Tables[0][0]) != x.want {
			t.Errorf("%d: %q, error %d", n, texts(c), e)
		}
	}
}

func TestApplyErrorsWrittenOut(t *testing.T) {
	c := conf([]string{"ab", ""}, nil, []string{"c"})
	full := func(edit api.Edit) api.Edit {
		edit.Rule = named('x')
		return edit
	}
	for n, x := range []struct {
		list []api.Edit
		want api.Errno
	}{
		{[]api.Edit{put(-1, 0, 0, 'x')}, api.ErrRange},
		{[]api.Edit{put(3, 0, 0, 'x')}, api.ErrRange},
		{[]api.Edit{cut(3, 0, 0)}, api.ErrRange},
		{[]api.Edit{put(0, -1, 0, 'x')}, api.ErrRange},
		{[]api.Edit{put(0, 2, 0, 'x')}, api.ErrRange},
		{[]api.Edit{put(1, 0, 0, 'x')}, api.ErrRange}, // that switch has no tables
		{[]api.Edit{put(2, 1, 0, 'x')}, api.ErrRange}, // though the first switch has a table 1
		{[]api.Edit{put(0, 0, -1, 'x')}, api.ErrRange},
		{[]api.Edit{put(0, 0, 2, 'x')}, api.OK},
		{[]api.Edit{put(0, 0, 3, 'x')}, api.ErrRange},
		{[]api.Edit{cut(0, 0, -1)}, api.ErrRange},
		{[]api.Edit{cut(0, 0, 1)}, api.OK},
		{[]api.Edit{cut(0, 0, 2)}, api.ErrRange},
		{[]api.Edit{cut(0, 1, 0)}, api.ErrRange},
		{[]api.Edit{put(0, 1, 0, 'x')}, api.OK},
		{[]api.Edit{put(0, 1, 1, 'x')}, api.ErrRange},
		{[]api.Edit{full(cut(0, 0, 1))}, api.ErrArg},
		{[]api.Edit{full(cut(0, 0, 2))}, api.ErrRange}, // it is named ahead of ErrArg
		{[]api.Edit{full(cut(0, 2, 0))}, api.ErrRange},
		{[]api.Edit{full(cut(3, 0, 0))}, api.ErrRange},
		{[]api.Edit{full(cut(0, 0, 0)), cut(0, 0, 5)}, api.ErrArg}, // it comes first
		{[]api.Edit{cut(0, 0, 5), full(cut(0, 0, 0))}, api.ErrRange},
		{[]api.Edit{cut(0, 0, 1), cut(0, 0, 1)}, api.ErrRange}, // as the list is by then
		{[]api.Edit{cut(0, 0, 0), cut(0, 0, 0), cut(0, 0, 0)}, api.ErrRange},
		{[]api.Edit{put(0, 0, 2, 'x'), cut(0, 0, 2)}, api.OK},
		{[]api.Edit{put(0, 0, 2, 'x'), put(0, 0, 3, 'y'), full(cut(0, 0, 3))}, api.ErrArg},
	} {
		got, e := Apply(c, x.list...)
		back, backError := Back(c, x.list...)
		if e != x.want || backError != x.want {
			t.Errorf("%d: errors %d and %d, not %d", n, e, backError, x.want)
		}
		if e != api.OK && (!isZero(got) || len(back) != 0) {
			t.Errorf("%d: results beside error %d", n, e)
		}
	}
}

// edits are all changes of some switches, tables and places, also of such as are not there.
func edits(switches, tables, places int) []api.Edit {
	var out []api.Edit
	for number := -1; number <= switches; number++ {
		for table := -1; table <= tables; table++ {
			for at := -1; at <= places; at++ {
				wrong := cut(number, table, at)
				wrong.Rule.Priority = 1
				out = append(out, put(number, table, at, 'x'), cut(number, table, at), wrong)
			}
		}
	}
	return out
}

func TestEachChange(t *testing.T) {
	for _, switches := range [][][]string{nil, {nil}, {{""}}, {{"a"}}, {{"ab", "cde"}}, {nil, {"abc"}}, {{"ab", ""}, {}, {"cdef", "g", "hi"}}} {
		holdsFor(t, switches)
		for _, edit := range edits(4, 4, 6) {
			holdsFor(t, switches, edit)
		}
	}
}

func TestPairsOfChanges(t *testing.T) {
	all := edits(1, 1, 3)
	for _, switches := range [][][]string{{{""}}, {{"a"}}, {{"ab"}}} {
		for _, first := range all {
			for _, second := range all {
				holdsFor(t, switches, first, second)
			}
		}
	}
}

func TestExtremeNumbers(t *testing.T) {
	for _, n := range []int{math.MinInt, math.MinInt + 1, math.MinInt32, math.MaxInt32, math.MaxInt - 1, math.MaxInt} {
		for _, edit := range []api.Edit{put(n, 0, 0, 'x'), put(0, n, 0, 'x'), put(0, 0, n, 'x'), cut(n, 0, 0), cut(0, n, 0), cut(0, 0, n), put(n, n, n, 'x'), cut(n, n, n)} {
			holdsFor(t, [][]string{{"ab"}, {"c"}}, edit)
			holdsFor(t, nil, edit)
		}
	}
}

func TestChangesByChance(t *testing.T) {
	r := rand.New(rand.NewSource(14))
	for range 3000 {
		switches := [][]string{{"ab", "cdefg"}, {}, {"hij"}}
		now := switches
		var list []api.Edit
		for range r.Intn(12) {
			number := []int{0, 0, 2}[r.Intn(3)]
			table := r.Intn(len(now[number]))
			size := len(now[number][table])
			edit := put(number, table, r.Intn(size+1), rune('k'+r.Intn(10)))
			if size > 0 && r.Intn(2) == 0 {
				edit = cut(number, table, r.Intn(size))
			}
			list = append(list, edit)
			now, _ = applyByHand(now, []api.Edit{edit})
		}
		holdsFor(t, switches, list...)
		list = append(list, edits(3, 2, 8)[r.Intn(5*4*10*3)])
		holdsFor(t, switches, list...)
	}
}

// different are rules that differ from the zero one in one part each, or are extreme, and may be unsound.
func different() []api.Rule {
	return []api.Rule{
		{Priority: 1},
		{Priority: math.MinInt},
		{Priority: math.MaxInt},
		{Match: api.Cube{Value: api.Head{Hi: 1}}},
		{Match: api.Cube{Value: api.Head{Lo: 1}}},
		{Match: api.Cube{Care: api.Head{Hi: 1 << 63}}},
		{Match: api.Cube{Care: api.Head{Lo: 1 << 63}}},
		{Do: api.Do{Kind: api.Drop}},
		{Do: api.Do{Kind: -9}},
		{Do: api.Do{Port: 1}},
		{Do: api.Do{Table: 1}},
		{Do: api.Do{Set: api.Cube{Value: api.Head{Hi: 1}}}},
		{Do: api.Do{Set: api.Cube{Value: api.Head{Lo: 1}}}},
		{Do: api.Do{Set: api.Cube{Care: api.Head{Hi: 1}}}},
		{Do: api.Do{Set: api.Cube{Care: api.Head{Lo: 1}}}},
	}
}

func TestEachPartOfARule(t *testing.T) {
	zero := api.Config{Tables: [][][]api.Rule{{{{}, {}}}}}
	for n, r := range different() {
		gone := api.Edit{At: 1, Gone: true, Rule: r}
		if _, e := Apply(zero, gone); e != api.ErrArg {
			t.Errorf("removal with rule %d: %d", n, e)
		}
		if _, e := Back(zero, gone); e != api.ErrArg {
			t.Errorf("back from a removal with rule %d: %d", n, e)
		}
		c, e := Apply(zero, api.Edit{At: 1, Rule: r})
		if e != api.OK || !slices.Equal(c.Tables[0][0], []api.Rule{{}, r, {}}) {
			t.Errorf("insertion of rule %d: %v, error %d", n, c.Tables, e)
		}
		list, e := Diff(zero, c)
		if e != api.OK || !slices.Equal(list, []api.Edit{{At: 1, Rule: r}}) {
			t.Errorf("difference to rule %d: %v, error %d", n, list, e)
		}
		back, e := Back(c, api.Edit{At: 1, Gone: true})
		if e != api.OK || !slices.Equal(back, []api.Edit{{At: 1, Rule: r}}) {
			t.Errorf("back from the removal of rule %d: %v, error %d", n, back, e)
		}
		for k, other := range different() {
			a := api.Config{Tables: [][][]api.Rule{{{r}}}}
			b := api.Config{Tables: [][][]api.Rule{{{other}}}}
			var want []api.Edit
			if n != k {
				want = []api.Edit{{Gone: true}, {Rule: other}}
			}
			if list, e := Diff(a, b); e != api.OK || !slices.Equal(list, want) {
				t.Errorf("from rule %d to %d: %v, error %d", n, k, list, e)
			}
		}
	}
}

func TestInsertionOfTheZeroRule(t *testing.T) {
	c, e := Apply(conf([]string{"a"}), api.Edit{At: 1})
	if e != api.OK || !slices.Equal(c.Tables[0][0], []api.Rule{named('a'), {}}) {
		t.Errorf("%v, error %d", c.Tables, e)
	}
	// Its inverse has a zero Rule, as that of each insertion.
	back, e := Back(conf([]string{"a"}), api.Edit{At: 1})
	if e != api.OK || !slices.Equal(back, []api.Edit{{At: 1, Gone: true}}) {
		t.Errorf("%v, error %d", back, e)
	}
}

// wide is larger than a sound configuration can be.
func wide() api.Config {
	c := api.Config{Topo: api.Topo{Ports: [][]api.Port{{{Kind: 77, Tenant: -1}}}}, Policy: api.Policy{Tenants: -5, Ways: []api.Way{{Via: math.MinInt}}}}
	for n := range api.MaxSwitches + 3 {
		var tables [][]api.Rule
		for k := range api.MaxTables + 3 {
			var list []api.Rule
			for i := range api.MaxRules + 10 {
				list = append(list, api.Rule{Priority: n<<20 | k<<10 | i, Match: api.Cube{Value: api.Head{Lo: 1}}})
			}
			tables = append(tables, list)
		}
		c.Tables = append(c.Tables, tables)
	}
	return c
}

func TestUnsoundConfigurations(t *testing.T) {
	c := wide()
	number, table, at := len(c.Tables)-1, len(c.Tables[0])-1, len(c.Tables[0][0])
	behind := api.Edit{Switch: number, Table: table, At: at, Rule: api.Rule{Priority: -1}}
	last := api.Edit{Switch: number, Table: table, At: at - 1, Gone: true}
	if _, e := Apply(c, last, last); e != api.ErrRange {
		t.Errorf("two removals of the last rule: %d", e)
	}
	for _, list := range [][]api.Edit{nil, {behind}, {last}, {last, {Switch: number, Table: table, At: 5}}} {
		d, e := Apply(c, list...)
		if e != api.OK || !sameButTables(c, d) {
			t.Errorf("%v: error %d", list, e)
			continue
		}
		back, e := Back(c, list...)
		again, backError := Apply(d, back...)
		if e != api.OK || backError != api.OK || !reflect.DeepEqual(again, c) {
			t.Errorf("%v: errors %d and %d on the way back", list, e, backError)
		}
		diff, e := Diff(c, d)
		again, diffError := Apply(c, diff...)
		if e != api.OK || diffError != api.OK || !reflect.DeepEqual(again, d) {
			t.Errorf("%v: errors %d and %d by the difference", list, e, diffError)
		}
	}
}

func TestManyChanges(t *testing.T) {
	var list []api.Edit
	for n := range 1000 {
		list = append(list, put(0, 0, n/2, rune(n)))
	}
	c, e := Apply(conf([]string{""}), list...)
	if e != api.OK || len(c.Tables[0][0]) != 1000 {
		t.Fatalf("%d rules, error %d", len(c.Tables[0][0]), e)
	}
	back, e := Back(conf([]string{""}), list...)
	none, f := Apply(c, back...)
	if e != api.OK || f != api.OK || len(none.Tables[0][0]) != 0 {
		t.Errorf("%d rules, errors %d and %d", len(none.Tables[0][0]), e, f)
	}
}

func TestDiffWrittenOut(t *testing.T) {
	for _, x := range []struct {
		a, b string
		want []api.Edit
	}{
		{"", "", nil},
		{"abc", "abc", nil},
		{"", "ab", []api.Edit{put(0, 0, 0, 'a'), put(0, 0, 1, 'b')}},
		{"ab", "", []api.Edit{cut(0, 0, 1), cut(0, 0, 0)}},
		{"abc", "axc", []api.Edit{cut(0, 0, 1), put(0, 0, 1, 'x')}},
		{"abcd", "axyd", []api.Edit{cut(0, 0, 2), cut(0, 0, 1), put(0, 0, 1, 'x'), put(0, 0, 2, 'y')}},
		{"abcd", "xbcy", []api.Edit{cut(0, 0, 3), cut(0, 0, 2), cut(0, 0, 1), cut(0, 0, 0), put(0, 0, 0, 'x'), put(0, 0, 1, 'b'), put(0, 0, 2, 'c'), put(0, 0, 3, 'y')}},
		{"ab", "abc", []api.Edit{put(0, 0, 2, 'c')}},
		{"bc", "abc", []api.Edit{put(0, 0, 0, 'a')}},
		// What is in common at both ends counts as the beginning.
		{"a", "aa", []api.Edit{put(0, 0, 1, 'a')}},
		{"aa", "a", []api.Edit{cut(0, 0, 1)}},
		{"aba", "ababa", []api.Edit{put(0, 0, 3, 'b'), put(0, 0, 4, 'a')}},
		{"ababa", "aba", []api.Edit{cut(0, 0, 4), cut(0, 0, 3)}},
		{"aab", "ab", []api.Edit{cut(0, 0, 1)}},
	} {
		got, e := Diff(conf([]string{x.a}), conf([]string{x.b}))
		if e != api.OK || !slices.Equal(got, x.want) {
			t.Errorf("%q to %q: %+v, error %d", x.a, x.b, got, e)
		}
	}
}

// words are all texts of some letters up to a length.
func words(letters string, length int) []string {
	out := []string{""}
	for from := 0; length > 0; length-- {
		to := len(out)
		for _, word := range out[from:to] {
			for _, letter := range letters {
				out = append(out, word+string(letter))
			}
		}
		from = to
	}
	return out
}

func TestDiffOfAllSmallTables(t *testing.T) {
	for _, all := range [][]string{words("ab", 5), words("abc", 3)} {
		for _, a := range all {
			for _, b := range all {
				got, e := Diff(conf([]string{a}), conf([]string{b}))
				if e != api.OK || !slices.Equal(got, diffByHand(0, 0, a, b)) {
					t.Fatalf("%q to %q: %+v, error %d", a, b, got, e)
				}
				c, e := Apply(conf([]string{a}), got...)
				if e != api.OK || letters(c.Tables[0][0]) != b {
					t.Fatalf("%q to %q: %q, error %d", a, b, texts(c), e)
				}
			}
		}
	}
}

func TestDiffOrder(t *testing.T) {
	a := [][]string{{"ab", "c", "xyz"}, {}, {"de"}, {"fgh", ""}}
	b := [][]string{{"b", "cc", "xyz"}, {}, {"ed"}, {"fih", "j"}}
	want := []api.Edit{
		cut(0, 0, 0),
		put(0, 1, 1, 'c'),
		cut(2, 0, 1), cut(2, 0, 0), put(2, 0, 0, 'e'), put(2, 0, 1, 'd'),
		cut(3, 0, 1), put(3, 0, 1, 'i'),
		put(3, 1, 0, 'j'),
	}
	got, e := Diff(conf(a...), conf(b...))
	if e != api.OK || !slices.Equal(got, want) {
		t.Fatalf("%+v, error %d", got, e)
	}
	c, e := Apply(conf(a...), got...)
	if e != api.OK || !reflect.DeepEqual(texts(c), b) {
		t.Errorf("%q, error %d", texts(c), e)
	}
}

func TestDiffByChance(t *testing.T) {
	r := rand.New(rand.NewSource(41))
	all := words("abc", 4)
	for range 5000 {
		var a, b [][]string
		var want []api.Edit
		for number := range r.Intn(4) {
			a, b = append(a, []string{}), append(b, []string{})
			for table := range r.Intn(4) {
				from, to := all[r.Intn(len(all))], all[r.Intn(len(all))]
				if r.Intn(3) == 0 {
					to = from
				}
				a[number], b[number] = append(a[number], from), append(b[number], to)
				want = append(want, diffByHand(number, table, from, to)...)
			}
		}
		c, d := conf(a...), conf(b...)
		got, e := Diff(c, d)
		if e != api.OK || !slices.Equal(got, want) {
			t.Fatalf("%q to %q: %+v, error %d", a, b, got, e)
		}
		applied, e := Apply(c, got...)
		if e != api.OK || !reflect.DeepEqual(texts(applied), texts(d)) {
			t.Fatalf("%q to %q: %q, error %d", a, b, texts(applied), e)
		}
		back, e := Back(c, got...)
		again, f := Apply(d, back...)
		if e != api.OK || f != api.OK || !reflect.DeepEqual(texts(again), texts(c)) {
			t.Fatalf("%q to %q and back: %q, errors %d and %d", a, b, texts(again), e, f)
		}
	}
}

func TestDiffIsOfTablesAlone(t *testing.T) {
	a, b := conf([]string{"ab"}), conf([]string{"ab"})
	b.Topo, b.Policy = api.Topo{Ports: make([][]api.Port, 5)}, api.Policy{Tenants: 4}
	if list, e := Diff(a, b); e != api.OK || len(list) != 0 {
		t.Errorf("%+v, error %d", list, e)
	}
	b = conf([]string{"b"})
	b.Topo = api.Topo{}
	c, e := Apply(a, cut(0, 0, 0))
	if e != api.OK || !sameButTables(c, a) || sameButTables(c, b) {
		t.Errorf("not the topology and policy of the first one, error %d", e)
	}
}

func TestDiffOfOtherShapes(t *testing.T) {
	shapes := [][][]string{{}, {{}}, {{""}}, {{"", ""}}, {{"a"}, {}}, {{}, {"a"}}, {{"a"}, {"a"}}, {{"a"}, {"a", ""}}, {{"a", ""}, {"a"}}, {{"a"}, {"a"}, {}}}
	for n, a := range shapes {
		for k, b := range shapes {
			list, e := Diff(conf(a...), conf(b...))
			if n == k && (e != api.OK || len(list) != 0) {
				t.Errorf("%q to itself: %+v, error %d", a, list, e)
			}
			if n != k && (e != api.ErrArg || len(list) != 0) {
				t.Errorf("%q to %q: %+v, error %d", a, b, list, e)
			}
		}
	}
}

func TestDiffErrorBehindDifferences(t *testing.T) {
	list, e := Diff(conf([]string{"ab"}, []string{"c"}), conf([]string{"x"}, []string{"c", "d"}))
	if e != api.ErrArg || len(list) != 0 {
		t.Errorf("%+v, error %d", list, e)
	}
}

func TestNilIsAsGoodAsEmpty(t *testing.T) {
	none := []api.Config{
		{Tables: [][][]api.Rule{{nil}, nil}},
		{Tables: [][][]api.Rule{{{}}, {}}, Topo: api.Topo{Ports: [][]api.Port{}}, Policy: api.Policy{Peers: [][2]int{}, Ways: []api.Way{}}},
	}
	for _, a := range none {
		for _, b := range none {
			if list, e := Diff(a, b); e != api.OK || len(list) != 0 {
				t.Errorf("%+v, error %d", list, e)
			}
		}
		c, e := Apply(a, put(0, 0, 0, 'x'))
		if e != api.OK || letters(c.Tables[0][0]) != "x" || len(c.Tables[1]) != 0 {
			t.Errorf("%q, error %d", texts(c), e)
		}
		if _, e := Apply(a, put(1, 0, 0, 'x')); e != api.ErrRange {
			t.Errorf("a table of a switch without tables: %d", e)
		}
	}
	for _, list := range [][]api.Edit{nil, {}} {
		if c, e := Apply(api.Config{}, list...); e != api.OK || len(c.Tables) != 0 {
			t.Errorf("%+v, error %d", c, e)
		}
		if back, e := Back(api.Config{}, list...); e != api.OK || len(back) != 0 {
			t.Errorf("%+v, error %d", back, e)
		}
	}
	if list, e := Diff(api.Config{}, api.Config{Tables: [][][]api.Rule{}}); e != api.OK || len(list) != 0 {
		t.Errorf("%+v, error %d", list, e)
	}
}

// spare is a list in front of others in the same memory.
func spare[T any](list []T, behind ...T) []T {
	return append(append(make([]T, 0, len(list)+len(behind)), list...), behind...)[:len(list)]
}

// roomy is conf with something in the spare capacity of each list.
func roomy(switches ...[]string) api.Config {
	c := conf(switches...)
	for n, tables := range c.Tables {
		for k, list := range tables {
			tables[k] = spare(list, listed("pqr")...)
		}
		c.Tables[n] = spare(tables, listed("s"), listed("t"))
	}
	c.Tables = spare(c.Tables, [][]api.Rule{listed("u")})
	c.Topo.Ports[0] = spare(c.Topo.Ports[0], api.Port{Cost: 9})
	c.Topo.Ports = spare(c.Topo.Ports, []api.Port{{Cost: 8}})
	c.Policy.Peers = spare(c.Policy.Peers, [2]int{5, 6})
	c.Policy.Ways = spare(c.Policy.Ways, api.Way{Via: 3})
	return c
}

// whole is a configuration with all that its lists have in spare capacity.
func whole(c api.Config) api.Config {
	out := api.Config{Policy: c.Policy}
	for _, ports := range c.Topo.Ports[:cap(c.Topo.Ports)] {
		out.Topo.Ports = append(out.Topo.Ports, slices.Clone(ports[:cap(ports)]))
	}
	out.Policy.Peers = slices.Clone(c.Policy.Peers[:cap(c.Policy.Peers)])
	out.Policy.Ways = slices.Clone(c.Policy.Ways[:cap(c.Policy.Ways)])
	for _, tables := range c.Tables[:cap(c.Tables)] {
		var own [][]api.Rule
		for _, list := range tables[:cap(tables)] {
			own = append(own, slices.Clone(list[:cap(list)]))
		}
		out.Tables = append(out.Tables, own)
	}
	return out
}

// spoil overwrites all that a configuration has, also in spare capacity.
func spoil(c api.Config) {
	for _, tables := range c.Tables[:cap(c.Tables)] {
		for _, list := range tables[:cap(tables)] {
			for n := range list[:cap(list)] {
				list[:cap(list)][n] = named('!')
			}
		}
		for n := range tables[:cap(tables)] {
			tables[:cap(tables)][n] = listed("!")
		}
	}
	for _, ports := range c.Topo.Ports[:cap(c.Topo.Ports)] {
		for n := range ports[:cap(ports)] {
			ports[:cap(ports)][n] = api.Port{Cost: -1}
		}
	}
	for n := range c.Topo.Ports[:cap(c.Topo.Ports)] {
		c.Topo.Ports[:cap(c.Topo.Ports)][n] = nil
	}
	for n := range c.Tables[:cap(c.Tables)] {
		c.Tables[:cap(c.Tables)][n] = nil
	}
	for n := range c.Policy.Peers[:cap(c.Policy.Peers)] {
		c.Policy.Peers[:cap(c.Policy.Peers)][n] = [2]int{-1, -1}
	}
	for n := range c.Policy.Ways[:cap(c.Policy.Ways)] {
		c.Policy.Ways[:cap(c.Policy.Ways)][n] = api.Way{Via: -1}
	}
}

// spoilEdits overwrites all that a list of changes has, also in spare capacity.
func spoilEdits(list []api.Edit) {
	for n := range list[:cap(list)] {
		list[:cap(list)][n] = api.Edit{Switch: -1, At: -1, Gone: true, Rule: named('!')}
	}
}

func TestArgumentsStayAsTheyAre(t *testing.T) {
	switches := [][]string{{"abc", "de"}, {"fgh"}}
	other := roomy([]string{"axc", ""}, []string{"fghi"})
	c := roomy(switches...)
	was, otherWas := whole(c), whole(other)
	list := spare([]api.Edit{put(0, 0, 3, 'x'), cut(0, 1, 0), put(1, 0, 0, 'y'), cut(0, 0, 0)}, put(0, 0, 0, 'z'))
	listWas := slices.Clone(list[:cap(list)])
	wrong := append(slices.Clone(list), cut(9, 9, 9))
	Apply(c, list...)
	Back(c, list...)
	Apply(c, wrong...)
	Back(c, wrong...)
	Diff(c, other)
	Diff(other, c)
	if !reflect.DeepEqual(whole(c), was) || !reflect.DeepEqual(whole(other), otherWas) {
		t.Error("a configuration has changed")
	}
	if !slices.Equal(list[:cap(list)], listWas) {
		t.Error("the list of changes has changed")
	}
}

func TestResultsHaveTheirOwnMemory(t *testing.T) {
	lists := [][]api.Edit{nil, {put(0, 0, 3, 'x')}, {cut(1, 0, 2)}, {cut(0, 0, 1), put(0, 1, 0, 'y'), cut(1, 0, 0)}}
	for _, list := range lists {
		c := roomy([]string{"abc", "de"}, []string{"fgh"})
		got, _ := Apply(c, list...)
		want := texts(got)
		again, _ := Apply(c, list...)
		spoil(again)
		was := whole(got)
		spoil(c)
		if !reflect.DeepEqual(whole(got), was) || !reflect.DeepEqual(texts(got), want) {
			t.Errorf("%+v: the result shares memory", list)
		}
		c = roomy([]string{"abc", "de"}, []string{"fgh"})
		before := whole(c)
		got, _ = Apply(c, list...)
		spoil(got)
		if !reflect.DeepEqual(whole(c), before) {
			t.Errorf("%+v: the argument shares memory with the result", list)
		}
	}
}

// One switch's tables may be another one's, in the same memory.
func TestSharedTablesPart(t *testing.T) {
	list := spare(listed("abc"), listed("pqr")...)
	tables := [][]api.Rule{list, list, list[:2]}
	c := api.Config{Tables: [][][]api.Rule{tables, tables}}
	got, e := Apply(c, cut(0, 0, 0), put(1, 1, 3, 'x'), put(1, 2, 2, 'y'))
	want := [][]string{{"bc", "abc", "ab"}, {"abc", "abcx", "aby"}}
	if e != api.OK || !reflect.DeepEqual(texts(got), want) {
		t.Errorf("%q, error %d", texts(got), e)
	}
	for n, tables := range got.Tables {
		for k, one := range tables {
			for i := range one[:cap(one)] {
				one[:cap(one)][i] = named('!')
			}
			want[n][k] = "!!!!"[:len(one)]
			if !reflect.DeepEqual(texts(got), want) {
				t.Fatalf("lists of one result share memory: %q", texts(got))
			}
		}
	}
}

func TestChangesHaveTheirOwnMemory(t *testing.T) {
	a, b := conf([]string{"abc"}), conf([]string{"xyz"})
	first, _ := Diff(a, b)
	want := slices.Clone(first)
	second, _ := Diff(a, b)
	spoilEdits(second)
	if !slices.Equal(first, want) {
		t.Error("differences share memory")
	}
	back, _ := Back(a, first...)
	wantBack := slices.Clone(back)
	other, _ := Back(a, first...)
	spoilEdits(other)
	spoilEdits(first)
	if !slices.Equal(back, wantBack) {
		t.Error("ways back share memory")
	}
	first, _ = Diff(a, b)
	back, _ = Back(a, first...)
	spoilEdits(back)
	if !slices.Equal(first, want) {
		t.Error("a way back shares memory with the changes")
	}
}

// A configuration as networks have it, with rules that match and set.
func TestRulesOfANetwork(t *testing.T) {
	match, _ := cube.Field(api.DstAt, api.DstBits, 7, api.DstBits)
	set, _ := cube.Field(api.MarkAt, api.MarkBits, 3, api.MarkBits)
	forward := api.Rule{Priority: 4, Match: match, Do: api.Do{Kind: api.Forward, Port: 1, Set: set}}
	deliver := api.Rule{Priority: 4, Match: match, Do: api.Do{Kind: api.Deliver, Port: 1, Set: set}}
	drop := api.Rule{Do: api.Do{Kind: api.Drop}}
	a := api.Config{Tables: [][][]api.Rule{{{forward, drop}}, {{deliver, drop}}}}
	b := api.Config{Tables: [][][]api.Rule{{{deliver, drop}}, {{deliver, forward, drop}}}}
	list, e := Diff(a, b)
	want := []api.Edit{{Gone: true}, {Rule: deliver}, {Switch: 1, At: 1, Rule: forward}}
	if e != api.OK || !slices.Equal(list, want) {
		t.Fatalf("%+v, error %d", list, e)
	}
	back, e := Back(a, list...)
	wantBack := []api.Edit{{Switch: 1, At: 1, Gone: true}, {Gone: true}, {Rule: forward}}
	if e != api.OK || !slices.Equal(back, wantBack) {
		t.Errorf("%+v, error %d", back, e)
	}
}
