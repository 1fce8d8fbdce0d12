package preds

import (
	"math"
	"math/rand"
	"reflect"
	"slices"
	"testing"

	"customhouse/api"
	"customhouse/atoms"
	"customhouse/config"
	"customhouse/cube"
	"customhouse/head"
	"customhouse/threebits"
	"customhouse/topo"
	"customhouse/walk"
)

// field is the headers whose bits from one on are those of a value.
func field(at, bits int, v uint64) api.Cube {
	c, _ := cube.Field(at, bits, v, bits)
	return c
}

// all is what some cubes that agree have in common.
func all(cubes ...api.Cube) api.Cube {
	c := cube.All()
	for _, other := range cubes {
		c = api.Cube{Value: head.Or(c.Value, other.Value), Care: head.Or(c.Care, other.Care)}
	}
	return c
}

func dst(v uint64) api.Cube { return field(api.DstAt, api.DstBits, v) }

func src(v uint64) api.Cube { return field(api.SrcAt, api.SrcBits, v) }

func mark(v uint64) api.Cube { return field(api.MarkAt, api.MarkBits, v) }

func net(v uint64) api.Cube { return field(api.NetAt, api.NetBits, v) }

func tag(v uint64) api.Cube { return field(api.TagAt, api.TagBits, v) }

// stamp is what headers of a tenant get under a version.
func stamp(tenant, version uint64) api.Cube { return all(net(tenant+1), tag(version), mark(0)) }

func edge(tenant int) api.Port { return api.Port{Kind: api.Edge, Tenant: tenant} }

func link(peer, at int) api.Port { return api.Port{Kind: api.Link, Peer: peer, At: at, Cost: 1} }

// dropping is a rule that sets something, and drops.
func dropping(match, set api.Cube) api.Rule {
	return api.Rule{Match: match, Do: api.Do{Kind: api.Drop, Set: set}}
}

// dropsOf are rules that drop, with these Matches.
func dropsOf(matches []api.Cube) []api.Rule {
	var out []api.Rule
	for _, m := range matches {
		out = append(out, dropping(m, cube.All()))
	}
	return out
}

// settersOf are rules that match every header, with these Sets.
func settersOf(sets []api.Cube) []api.Rule {
	var out []api.Rule
	for _, s := range sets {
		out = append(out, dropping(cube.All(), s))
	}
	return out
}

// alone is a switch without ports, with one table.
func alone(rules ...api.Rule) api.Config {
	return api.Config{Topo: api.Topo{Ports: [][]api.Port{nil}}, Policy: api.Policy{Tenants: 1}, Tables: [][][]api.Rule{{rules}}}
}

// laidOut is six switches without ports, with three tables each, among which the rules are laid out in order.
func laidOut(rules []api.Rule) api.Config {
	c := api.Config{Policy: api.Policy{Tenants: 1}}
	for range 6 {
		tables := make([][]api.Rule, 3)
		for n := range tables {
			count := min(32, len(rules))
			tables[n], rules = rules[:count], rules[count:]
		}
		c.Topo.Ports = append(c.Topo.Ports, nil)
		c.Tables = append(c.Tables, tables)
	}
	return c
}

// row: three switches in a row, with edges of three tenants, that of the highest one first; the first switch has two tables.
func row() api.Config {
	return api.Config{
		Topo: api.Topo{Ports: [][]api.Port{
			{{}, edge(2), link(1, 2)},
			{edge(0), link(2, 0), link(0, 2), edge(2)},
			{link(1, 1), edge(1), {}, edge(0)},
		}},
		Policy: api.Policy{Tenants: 3, Peers: [][2]int{{0, 1}}},
		Tables: [][][]api.Rule{
			{
				{
					{Priority: 1, Match: dst(7), Do: api.Do{Kind: api.Goto, Table: 1, Set: mark(9)}},
					{Priority: 8, Match: dst(5), Do: api.Do{Kind: api.Deliver, Port: 1, Set: dst(6)}},
				},
				{{Priority: 1, Match: mark(9), Do: api.Do{Kind: api.Forward, Port: 2, Set: mark(0)}}, dropping(cube.All(), cube.All())},
			},
			{{{Priority: 4, Match: dst(7), Do: api.Do{Kind: api.Forward, Port: 1, Set: mark(9)}}, dropping(cube.All(), cube.All())}},
			{{{Priority: 4, Match: net(2), Do: api.Do{Kind: api.Deliver, Port: 3}}, {Priority: 5, Match: dst(5), Do: api.Do{Kind: api.Drop, Set: src(3)}}}},
		},
	}
}

// beforeByHand goes bit by bit.
func beforeByHand(c, set api.Cube) (api.Cube, bool) {
	var out api.Cube
	for n := range 128 {
		bit := field(n, 1, 1).Value
		cares, sets := head.Bit(c.Care, n), head.Bit(set.Care, n)
		if cares && sets && head.Bit(c.Value, n) != head.Bit(set.Value, n) {
			return api.Cube{}, false
		}
		if cares && !sets {
			out.Care = head.Or(out.Care, bit)
			out.Value = head.Or(out.Value, head.And(c.Value, bit))
		}
	}
	return out, true
}

// withNew is the list with a cube that it has not got yet.
func withNew(list []api.Cube, c api.Cube) []api.Cube {
	if slices.Contains(list, c) {
		return list
	}
	return append(list, c)
}

// setsByHand is what P13.1 tells of a sound configuration.
func setsByHand(c api.Config, version int) []api.Cube {
	var out []api.Cube
	for _, ports := range c.Topo.Ports {
		for _, p := range ports {
			if p.Kind == api.Edge {
				out = withNew(out, stamp(uint64(p.Tenant), uint64(version)))
			}
		}
	}
	for _, tables := range c.Tables {
		for _, list := range tables {
			for _, r := range list {
				if r.Do.Set != cube.All() {
					out = withNew(out, r.Do.Set)
				}
			}
		}
	}
	return out
}

// ofByHand is what P13.2 tells of a sound configuration.
func ofByHand(c api.Config, version int) ([]api.Cube, api.Errno) {
	var list, sorted []api.Cube
	for _, tables := range c.Tables {
		for _, rules := range tables {
			for _, r := range rules {
				list = withNew(list, r.Match)
			}
		}
	}
	sets := setsByHand(c, version)
	for n := 0; n < len(list); n++ {
		for _, s := range sets {
			if before, ok := beforeByHand(list[n], s); ok {
				list = withNew(list, before)
			}
		}
		if len(list) > 500 {
			return nil, api.ErrCubes
		}
	}
	for count := range 129 {
		for _, c := range list {
			if head.Ones(c.Care) == count {
				sorted = append(sorted, c)
			}
		}
	}
	return sorted, api.OK
}

// check holds both functions against what the chapter tells.
func check(t *testing.T, c api.Config, version int) {
	t.Helper()
	want := setsByHand(c, version)
	if got, e := Sets(c, version); e != api.OK || !slices.Equal(got, want) {
		t.Fatalf("Sets under %d: %d cubes, %v; not %d", version, len(got), e, len(want))
	}
	want, wantE := ofByHand(c, version)
	if got, e := Of(c, version); e != wantE || !slices.Equal(got, want) {
		t.Fatalf("Of under %d: %d cubes, %v; not %d, %v", version, len(got), e, len(want), wantE)
	}
}

func TestSetsWrittenOut(t *testing.T) {
	twice := alone(dropping(cube.All(), dst(3)), dropping(dst(4), cube.All()), dropping(dst(5), dst(2)), dropping(dst(6), dst(3)))
	stamped := row()
	stamped.Tables[2][0][0].Do.Set = stamp(1, 4)
	stamped.Tables[2][0][1].Do.Set = api.Cube{Care: api.Head{Lo: 1}}
	for n, test := range []struct {
		c       api.Config
		version int
		want    []api.Cube
	}{
		{alone(), 0, nil},
		{alone(dropping(dst(3), cube.All())), 0, nil},
		{twice, 9, []api.Cube{dst(3), dst(2)}},
		{row(), 0, []api.Cube{stamp(2, 0), stamp(0, 0), stamp(1, 0), mark(9), dst(6), mark(0), src(3)}},
		{row(), 255, []api.Cube{stamp(2, 255), stamp(0, 255), stamp(1, 255), mark(9), dst(6), mark(0), src(3)}},
		// A rule sets what one of the stamps sets, and another one sets a bit to 0.
		{stamped, 4, []api.Cube{stamp(2, 4), stamp(0, 4), stamp(1, 4), mark(9), dst(6), mark(0), {Care: api.Head{Lo: 1}}}},
		{stamped, 5, []api.Cube{stamp(2, 5), stamp(0, 5), stamp(1, 5), mark(9), dst(6), mark(0), stamp(1, 4), {Care: api.Head{Lo: 1}}}},
	} {
		if got, e := Sets(test.c, test.version); e != api.OK || !slices.Equal(got, test.want) {
			t.Errorf("%d: %v, %v", n, got, e)
		}
	}
}

func TestOfWrittenOut(t *testing.T) {
	x, y := field(70, 1, 1), field(3, 1, 0)
	for n, test := range []struct {
		c    api.Config
		want []api.Cube
	}{
		{alone(), nil},
		{alone(dropsOf(threebits.Cubes("010 xxx 1xx x0x 010 0xx xx1 1xx"))...), threebits.Cubes("xxx 1xx x0x 0xx xx1 010")},
		// No Match has a bit that is set: there is nothing new.
		{alone(dropping(threebits.Cube("1xx"), threebits.Cube("x1x"))), threebits.Cubes("1xx")},
		// What is set agrees, or not.
		{alone(dropping(threebits.Cube("110"), threebits.Cube("x1x"))), threebits.Cubes("1x0 110")},
		{alone(dropping(threebits.Cube("110"), threebits.Cube("x0x"))), threebits.Cubes("110")},
		{alone(dropping(threebits.Cube("110"), threebits.Cube("01x"))), threebits.Cubes("110")},
		{alone(dropping(threebits.Cube("110"), threebits.Cube("110"))), threebits.Cubes("xxx 110")},
		// What was appended is gone through too; for each cube in turn, what each set makes of it.
		{alone(dropping(threebits.Cube("011"), threebits.Cube("xx1")), dropping(threebits.Cube("01x"), threebits.Cube("0xx"))), threebits.Cubes("x1x 01x x11 011")},
		{alone(dropping(threebits.Cube("110"), threebits.Cube("1xx")), dropping(threebits.Cube("111"), threebits.Cube("x1x"))), threebits.Cubes("xx0 xx1 x10 1x0 x11 1x1 110 111")},
		// Of the same number of bits, what came first is first.
		{alone(dropping(all(x, y), x), dropping(x, y)), []api.Cube{cube.All(), x, y, all(x, y)}},
		{alone(dropping(all(x, y), y), dropping(y, x)), []api.Cube{cube.All(), y, x, all(x, y)}},
	} {
		if got, e := Of(test.c, 7); e != api.OK || !slices.Equal(got, test.want) {
			t.Errorf("%d: %v, %v", n, got, e)
		}
	}
}

// What is asked of fields that are stamped falls away where a stamp has it, and is never so where none has it.
func TestOfStamps(t *testing.T) {
	a, b, c, d := all(dst(7), net(1)), all(dst(8), net(3)), all(net(1), tag(4), mark(0)), all(dst(9), mark(1))
	stamped := alone(dropsOf([]api.Cube{a, b, c, d})...)
	stamped.Topo.Ports[0] = []api.Port{edge(0), edge(1), edge(0)}
	stamped.Policy.Tenants = 2
	for version, want := range map[int][]api.Cube{
		4: {cube.All(), dst(7), c, d, a, b},
		5: {dst(7), c, d, a, b},
	} {
		if got, e := Of(stamped, version); e != api.OK || !slices.Equal(got, want) {
			t.Errorf("%d: %v, %v", version, got, e)
		}
	}
}

// The order is that of the lists, whatever the priorities are.
func TestOrder(t *testing.T) {
	var rules []api.Rule
	for n := range uint64(90) {
		rules = append(rules, dropping(dst(n*37%90), src(n*53%90)))
		rules[n].Priority = int(n * 11 % 90)
	}
	c := api.Config{Policy: api.Policy{Tenants: 1}, Topo: api.Topo{Ports: make([][]api.Port, 3)}}
	for n := range 3 {
		own := rules[n*30:]
		c.Tables = append(c.Tables, [][]api.Rule{own[:10], own[10:20], own[20:30]})
	}
	sets, e := Sets(c, 1)
	if e != api.OK {
		t.Fatal(e)
	}
	of, e := Of(c, 1)
	if e != api.OK {
		t.Fatal(e)
	}
	if len(sets) != 90 || len(of) != 90 {
		t.Fatal(len(sets), len(of))
	}
	for n, r := range rules {
		if sets[n] != r.Do.Set || of[n] != r.Match {
			t.Errorf("%d: %v, %v", n, sets[n], of[n])
		}
	}
}

func TestTwoRules(t *testing.T) {
	var cubes []api.Cube
	for _, a := range "01x" {
		for _, b := range "01x" {
			cubes = append(cubes, threebits.Cube(string([]rune{'x', a, b})))
		}
	}
	for _, m := range cubes {
		for _, s := range cubes {
			for _, m2 := range cubes {
				for _, s2 := range cubes {
					check(t, alone(dropping(m, s), dropping(m2, s2)), 3)
				}
			}
		}
	}
}

// anyCube cares for few of some bits, and has 1 there more seldom than 0, so that cubes often agree.
func anyCube(r *rand.Rand) api.Cube {
	c := cube.All()
	for _, n := range []int{0, 1, 2, 63, 64, 88, 89, 112, 120, 127} {
		if r.Intn(5) == 0 {
			c = all(c, field(n, 1, uint64(max(0, r.Intn(4)-2))))
		}
	}
	return c
}

// anyDo is mostly to forward.
func anyDo(r *rand.Rand, table, tables int, ports []api.Port) api.Do {
	if table+1 < tables && r.Intn(2) == 0 {
		return api.Do{Kind: api.Goto, Table: table + 1}
	}
	n := r.Intn(len(ports))
	switch ports[n].Kind {
	case api.Edge:
		return api.Do{Kind: api.Deliver, Port: n}
	case api.Link:
		return api.Do{Kind: api.Forward, Port: n}
	}
	return api.Do{Kind: api.Drop}
}

// anyConfig is the row with other tables.
func anyConfig(r *rand.Rand) api.Config {
	c := row()
	for n, tables := range c.Tables {
		for k := range tables {
			tables[k] = nil
			for range r.Intn(6) {
				one := api.Rule{Priority: r.Intn(3), Match: anyCube(r), Do: anyDo(r, k, len(tables), c.Topo.Ports[n])}
				if r.Intn(3) == 0 {
					one.Do.Set = anyCube(r)
				}
				tables[k] = append(tables[k], one)
			}
		}
	}
	return c
}

func TestAnyConfigs(t *testing.T) {
	r := rand.New(rand.NewSource(13))
	for range 1500 {
		check(t, anyConfig(r), r.Intn(256))
	}
}

// rulesOf are the rules that a run came by.
func rulesOf(r api.Run) [][3]int {
	var out [][3]int
	for _, h := range r.Hops {
		out = append(out, [3]int{h.Switch, h.Table, h.Rule})
	}
	return out
}

// Headers that are in the same cubes take the same rules.
func TestConsequence(t *testing.T) {
	r := rand.New(rand.NewSource(31))
	long := 0
	for range 60 {
		c, version := anyConfig(r), r.Intn(3)
		of, e := Of(c, version)
		if e != api.OK {
			t.Fatal(e)
		}
		list, e := atoms.Split(of)
		if e != api.OK {
			continue
		}
		for range 20 {
			h := api.Head{Hi: r.Uint64(), Lo: r.Uint64()}
			n, _ := atoms.Find(list, h)
			for _, s := range topo.Edges(c.Topo) {
				one, _ := walk.Run(c, s, h, version)
				other, _ := walk.Run(c, s, list[n].Head, version)
				if !slices.Equal(rulesOf(one), rulesOf(other)) {
					t.Fatalf("%v: %v and %v go other ways", s, h, list[n].Head)
				}
				if len(one.Hops) > 2 {
					long++
				}
			}
		}
	}
	if long < 100 {
		t.Error("runs are too short to tell:", long)
	}
}

// numbered are so many cubes of all bits of a field.
func numbered(one func(uint64) api.Cube, count int) []api.Cube {
	var out []api.Cube
	for n := range count {
		out = append(out, one(uint64(n)))
	}
	return out
}

func TestMostPreds(t *testing.T) {
	// with has the cube too, by which each of the others is cut down to a new one.
	with := func(cubes []api.Cube, more api.Cube) []api.Cube {
		var out []api.Cube
		for _, c := range cubes {
			out = append(out, all(c, more))
		}
		return out
	}
	bits := func(count int) []api.Cube {
		var out []api.Cube
		for n := range count {
			out = append(out, field(n*9, 1, 1))
		}
		return out
	}
	last := dropping(mark(1), cube.All())
	lastTwice := dropping(all(mark(1), src(1)), cube.All())
	pairs := append(dropsOf(with(numbered(dst, 248), src(1))), dropping(cube.All(), src(1)))
	for n, test := range []struct {
		rules []api.Rule
		e     api.Errno
		count int
	}{
		{dropsOf(numbered(dst, 500)), api.OK, 500},
		{dropsOf(numbered(dst, 501)), api.ErrCubes, 0},
		{dropsOf(numbered(dst, 576)), api.ErrCubes, 0},
		// Duplicates don't count.
		{append(dropsOf(numbered(dst, 500)), dropsOf(numbered(dst, 76))...), api.OK, 500},
		{settersOf(numbered(dst, 576)), api.OK, 1},
		// 248 pairs and the cube of all headers are 497; another pair is 499, and a cube by itself one more.
		{append(slices.Clone(pairs), last), api.OK, 498},
		{append(slices.Clone(pairs), last, lastTwice), api.OK, 499},
		{append(slices.Clone(pairs), last, lastTwice, dropping(src(4), cube.All())), api.OK, 500},
		{append(slices.Clone(pairs), last, lastTwice, dropping(src(4), cube.All()), dropping(src(5), cube.All())), api.ErrCubes, 0},
		{append(slices.Clone(pairs), last, dropping(src(4), cube.All()), dropping(src(5), cube.All())), api.OK, 500},
		// The last cube that is appended is the one too many.
		{append(slices.Clone(pairs), last, dropping(src(4), cube.All()), dropping(src(5), cube.All()), lastTwice), api.ErrCubes, 0},
		// All ways to set some of the bits that are asked.
		{append(settersOf(bits(8)), dropping(all(bits(8)...), cube.All())), api.OK, 256},
		{append(settersOf(bits(9)), dropping(all(bits(9)...), cube.All())), api.ErrCubes, 0},
		{append(settersOf(bits(14)), dropping(all(bits(14)...), cube.All())), api.ErrCubes, 0},
	} {
		c := laidOut(test.rules)
		got, e := Of(c, 0)
		if e != test.e || len(got) != test.count {
			t.Errorf("%d: %d, %v", n, len(got), e)
		}
		check(t, c, 0)
	}
}

// There may be more Sets than predicates.
func TestMostSets(t *testing.T) {
	c := laidOut(settersOf(numbered(dst, 576)))
	for n := range c.Topo.Ports {
		for k := range 6 {
			c.Topo.Ports[n] = append(c.Topo.Ports[n], edge((n+k)%4))
		}
	}
	c.Policy.Tenants = 4
	want := append([]api.Cube{stamp(0, 8), stamp(1, 8), stamp(2, 8), stamp(3, 8)}, numbered(dst, 576)...)
	if got, e := Sets(c, 8); e != api.OK || !slices.Equal(got, want) {
		t.Error(len(got), e)
	}
}

// Whoever enumerates rules may stop at any one.
func TestRulesStop(t *testing.T) {
	for limit := range 8 {
		var seen []api.Rule
		for r := range network(row().Tables).rules {
			seen = append(seen, r)
			if len(seen) > limit {
				break
			}
		}
		if len(seen) != limit+1 {
			t.Error(limit, len(seen))
		}
	}
}

// bad are configurations that are not sound, with their errors.
func bad() map[string]api.Config {
	out := map[string]api.Config{"none": {}}
	for name, spoil := range map[string]func(c *api.Config){
		"port":         func(c *api.Config) { c.Topo.Ports[0][0].Kind = 3 },
		"seven ports":  func(c *api.Config) { c.Topo.Ports[0] = make([]api.Port, 7) },
		"no tenants":   func(c *api.Config) { c.Policy.Tenants = 0 },
		"few tenants":  func(c *api.Config) { c.Policy.Tenants = 2 },
		"peers":        func(c *api.Config) { c.Policy.Peers[0][1] = math.MaxInt },
		"few tables":   func(c *api.Config) { c.Tables = c.Tables[:2] },
		"no tables":    func(c *api.Config) { c.Tables[1] = nil },
		"many rules":   func(c *api.Config) { c.Tables[1] = [][]api.Rule{make([]api.Rule, 97)} },
		"match":        func(c *api.Config) { c.Tables[1][0][0].Match = threebits.Cube("xxv") },
		"set":          func(c *api.Config) { c.Tables[2][0][1].Do.Set = threebits.Cube("vxx") },
		"kind":         func(c *api.Config) { c.Tables[2][0][1].Do.Kind = math.MinInt },
		"port of rule": func(c *api.Config) { c.Tables[2][0][0].Do.Port = 0 },
		"table":        func(c *api.Config) { c.Tables[0][0][0].Do.Table = 2 },
		"priority":     func(c *api.Config) { c.Tables[0][0][0].Priority = -1 },
	} {
		c := row()
		spoil(&c)
		out[name] = c
	}
	return out
}

// wrongVersions are those next to the right ones, and at the ends of the integers.
func wrongVersions() []int {
	return []int{-1, 256, -256, 1 << 32, math.MinInt, math.MaxInt}
}

func TestErrors(t *testing.T) {
	expect := func(c api.Config, version int, want api.Errno) {
		t.Helper()
		if got, e := Sets(c, version); e != want || len(got) != 0 {
			t.Errorf("Sets: %d: %v, %v", version, got, e)
		}
		if got, e := Of(c, version); e != want || len(got) != 0 {
			t.Errorf("Of: %d: %v, %v", version, got, e)
		}
	}
	for name, c := range bad() {
		want := config.Sound(c)
		if want == api.OK {
			t.Error(name, "is sound")
		}
		for _, version := range append(wrongVersions(), 0, 255) {
			expect(c, version, want)
		}
	}
	many := laidOut(dropsOf(numbered(dst, 501)))
	for _, version := range wrongVersions() {
		expect(row(), version, api.ErrRange)
		expect(alone(), version, api.ErrRange) // there is nothing that could be stamped
		expect(many, version, api.ErrRange)
	}
	if got, e := Of(many, 0); e != api.ErrCubes || len(got) != 0 {
		t.Error(got, e)
	}
}

// roomy is a configuration of the same lists, each with room behind it that is filled.
func roomy(c api.Config) api.Config {
	c.Topo.Ports = withRoom(c.Topo.Ports, nil)
	for n, ports := range c.Topo.Ports {
		c.Topo.Ports[n] = withRoom(ports, edge(3))
	}
	c.Policy.Peers = withRoom(c.Policy.Peers, [2]int{5, 5})
	c.Tables = withRoom(c.Tables, nil)
	for n, tables := range c.Tables {
		c.Tables[n] = withRoom(tables, nil)
		for k, list := range tables {
			c.Tables[n][k] = withRoom(list, dropping(dst(99), dst(98)))
		}
	}
	return c
}

func withRoom[T any](list []T, behind T) []T {
	return append(slices.Clone(list), behind, behind)[:len(list)]
}

// whole is all that a configuration's lists hold, the room behind them too.
func whole(c api.Config) []any {
	out := []any{c.Policy.Tenants, c.Policy.Peers[:cap(c.Policy.Peers)]}
	for _, ports := range c.Topo.Ports[:cap(c.Topo.Ports)] {
		out = append(out, slices.Clone(ports[:cap(ports)]))
	}
	for _, tables := range c.Tables[:cap(c.Tables)] {
		for _, list := range tables[:cap(tables)] {
			out = append(out, slices.Clone(list[:cap(list)]))
		}
	}
	return out
}

// scribble writes over all of a list, and over the room behind it.
func scribble(list []api.Cube) {
	list = list[:cap(list)]
	for n := range list {
		list[n] = threebits.Cube("vvv")
	}
}

func TestMemory(t *testing.T) {
	functions := map[string]func(api.Config, int) ([]api.Cube, api.Errno){"Sets": Sets, "Of": Of}
	for name, f := range functions {
		c := roomy(row())
		before := whole(c)
		first, e := f(c, 6)
		if e != api.OK || !reflect.DeepEqual(whole(c), before) {
			t.Fatal(name, "changed its argument", e)
		}
		want := slices.Clone(first)
		second, _ := f(c, 6)
		scribble(first)
		third, _ := f(c, 6)
		if !slices.Equal(second, want) || !slices.Equal(third, want) {
			t.Error(name, "gave out memory that it still uses")
		}
		if !reflect.DeepEqual(whole(c), before) {
			t.Error(name, "gave out memory of its argument")
		}
	}
}
