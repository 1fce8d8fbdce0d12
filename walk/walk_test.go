package walk

import (
	"math"
	"math/rand"
	"reflect"
	"slices"
	"testing"

	"customhouse/api"
	"customhouse/config"
)

func edge(tenant int) api.Port { return api.Port{Kind: api.Edge, Tenant: tenant} }

func link(peer, at, cost int) api.Port {
	return api.Port{Kind: api.Link, Peer: peer, At: at, Cost: cost}
}

func spot(number, port int) api.Spot { return api.Spot{Switch: number, Port: port} }

// lo is the cube of some of the lower 64 bits.
func lo(value, care uint64) api.Cube {
	return api.Cube{Value: api.Head{Lo: value}, Care: api.Head{Lo: care}}
}

// dst is the cube of one Dst.
func dst(v uint64) api.Cube { return lo(v, math.MaxUint32) }

func drop() api.Rule            { return api.Rule{Do: api.Do{Kind: api.Drop}} }
func deliver(port int) api.Rule { return api.Rule{Do: api.Do{Kind: api.Deliver, Port: port}} }
func forward(port int) api.Rule { return api.Rule{Do: api.Do{Kind: api.Forward, Port: port}} }
func goTo(table int) api.Rule   { return api.Rule{Do: api.Do{Kind: api.Goto, Table: table}} }

// matching is a rule for the headers of a cube.
func matching(m api.Cube, priority int, r api.Rule) api.Rule {
	r.Match, r.Priority = m, priority
	return r
}

// setting is a rule that sets bits.
func setting(set api.Cube, r api.Rule) api.Rule {
	r.Do.Set = set
	return r
}

// row: three switches in a row, with edges of three tenants. A link's port is not the number of its other end's.
func row(tables ...[][]api.Rule) api.Config {
	return api.Config{
		Topo: api.Topo{Ports: [][]api.Port{
			{edge(0), link(1, 2, 5), {}, edge(3)},
			{edge(2), link(2, 0, 6), link(0, 1, 5)},
			{link(1, 1, 6), {}, edge(1), edge(0)},
		}},
		Policy: api.Policy{Tenants: 4},
		Tables: tables,
	}
}

// stamped is a header that came in by an edge of a tenant.
func stamped(h api.Head, tenant, version int) api.Head {
	return api.Head{Hi: uint64(version)<<48 | uint64(tenant+1)<<24 | h.Hi&0xffffff, Lo: h.Lo}
}

// numbers are around all bounds, and at the ends of the integers.
func numbers() []int {
	out := []int{math.MinInt, math.MinInt + 1, math.MinInt32, -256, 254, 255, 256, 257, math.MaxInt32, math.MaxInt - 1, math.MaxInt}
	for n := -3; n <= 8; n++ {
		out = append(out, n)
	}
	return out
}

// same tells whether two runs are equal, where nil hops are as good as empty ones.
func same(a, b api.Run) bool {
	return a.End == b.End && a.At == b.At && slices.Equal(a.Hops, b.Hops)
}

// expect holds a run, which has to be without error, against what it has to be.
func expect(t *testing.T, c api.Config, s api.Spot, h api.Head, version int, want api.Run) {
	t.Helper()
	if got, e := Run(c, s, h, version); e != api.OK || !same(got, want) {
		t.Errorf("%+v from %v: %+v %d, not %+v", h, s, got, e, want)
	}
}

// bits is the bits of a header, the lowest one first.
type bits [128]int

func spread(h api.Head) bits {
	var out bits
	for n := range 64 {
		out[n], out[64+n] = int(h.Lo>>n&1), int(h.Hi>>n&1)
	}
	return out
}

func gather(b bits) api.Head {
	var out api.Head
	for n := range 64 {
		out.Lo |= uint64(b[n]) << n
		out.Hi |= uint64(b[64+n]) << n
	}
	return out
}

func matchesByHand(c api.Cube, h api.Head) bool {
	value, care, all := spread(c.Value), spread(c.Care), spread(h)
	for n := range all {
		if care[n] == 1 && value[n] != all[n] || care[n] == 0 && value[n] == 1 {
			return false
		}
	}
	return true
}

func setByHand(h api.Head, set api.Cube) api.Head {
	value, care, all := spread(set.Value), spread(set.Care), spread(h)
	for n := range all {
		if care[n] == 1 {
			all[n] = value[n]
		}
	}
	return gather(all)
}

// oneByHand goes by the chapter's words, and shares no code with the layers.
func oneByHand(tables [][]api.Rule, table int, h api.Head) (int, api.Head, bool) {
	best := -1
	if table >= 0 && table < len(tables) {
		for n, r := range tables[table] {
			if matchesByHand(r.Match, h) && (best < 0 || r.Priority > tables[table][best].Priority) {
				best = n
			}
		}
	}
	if best < 0 {
		return 0, api.Head{}, false
	}
	return best, setByHand(h, tables[table][best].Do.Set), true
}

// found is what oneByHand answers.
type found struct {
	rule  int
	after api.Head
	ok    bool
}

// runByHand is the run of a sound configuration by the chapter's words. A packet that comes to a place again is not looked up again, as a loop is long.
func runByHand(c api.Config, s api.Spot, h api.Head, version int) api.Run {
	var run api.Run
	known := map[api.Hop]found{}
	hop := api.Hop{Switch: s.Switch, Head: stamped(h, c.Topo.Ports[s.Switch][s.Port].Tenant, version)}
	for len(run.Hops) < 10800 {
		f, again := known[hop]
		if !again {
			f.rule, f.after, f.ok = oneByHand(c.Tables[hop.Switch], hop.Table, hop.Head)
			known[hop] = f
		}
		if !f.ok {
			run.Hops = append(run.Hops, api.Hop{Switch: hop.Switch, Table: hop.Table, Rule: -1, Head: hop.Head})
			run.End = api.Missed
			return run
		}
		run.Hops = append(run.Hops, api.Hop{Switch: hop.Switch, Table: hop.Table, Rule: f.rule, Head: hop.Head})
		do := c.Tables[hop.Switch][hop.Table][f.rule].Do
		hop.Head = f.after
		switch do.Kind {
		case api.Drop:
			run.End = api.Dropped
			return run
		case api.Deliver:
			run.End, run.At = api.Delivered, api.Spot{Switch: hop.Switch, Port: do.Port}
			return run
		case api.Goto:
			hop.Table = do.Table
		default:
			hop.Switch, hop.Table = c.Topo.Ports[hop.Switch][do.Port].Peer, 0
		}
	}
	run.End = api.Looped
	return run
}

func TestOneByPriority(t *testing.T) {
	low, high := goTo(1), drop()
	low.Do.Set = lo(5, 7)
	high.Priority, high.Match, high.Do.Set = 9, dst(3), lo(8, 8)
	tables := [][]api.Rule{{low, high}, {high, low, low}, nil, {}, {high}}
	for k, c := range []struct {
		table int
		h     uint64
		want  int
		after uint64
		ok    bool
	}{
		{0, 3, 1, 11, true}, {0, 2, 0, 5, true}, {0, 0xf0, 0, 0xf5, true},
		{1, 3, 0, 11, true}, {1, 2, 1, 5, true},
		{2, 3, 0, 0, false}, {3, 3, 0, 0, false},
		{4, 3, 0, 11, true}, {4, 2, 0, 0, false},
	} {
		n, after, ok := One(tables, c.table, api.Head{Lo: c.h})
		if n != c.want || after != (api.Head{Lo: c.after}) || ok != c.ok {
			t.Errorf("case %d: %d %x %v", k, n, after, ok)
		}
	}
}

// The bits that are not set stay as they were, in both halves of the header.
func TestOneSetsBits(t *testing.T) {
	r := rand.New(rand.NewSource(1))
	for range 2000 {
		h := api.Head{Hi: r.Uint64(), Lo: r.Uint64()}
		// The cubes of this set are not all sound.
		set := api.Cube{Value: api.Head{Hi: r.Uint64(), Lo: r.Uint64()}, Care: api.Head{Hi: r.Uint64(), Lo: r.Uint64()}}
		for _, kind := range []int{api.Drop, api.Deliver, api.Forward, api.Goto, 0, -1, 9} {
			tables := [][]api.Rule{nil, {{Match: lo(1, 0)}, {Do: api.Do{Kind: kind, Set: set}}}}
			n, after, ok := One(tables, 1, h)
			if n != 1 || after != setByHand(h, set) || !ok {
				t.Fatalf("%x, set %x: %d %x %v", h, set, n, after, ok)
			}
		}
	}
}

func TestOneWithoutSuchATable(t *testing.T) {
	all := [][][]api.Rule{nil, {}, {{drop()}}, {{drop()}, {drop()}}, {{drop()}, {drop()}, {drop()}}, slices.Repeat([][]api.Rule{{drop()}}, 7)}
	for _, tables := range all {
		for _, table := range numbers() {
			h := api.Head{Hi: 6, Lo: 7}
			n, after, ok := One(tables, table, h)
			if table >= 0 && table < len(tables) {
				if n != 0 || after != h || !ok {
					t.Errorf("table %d of %d: %d %x %v", table, len(tables), n, after, ok)
				}
			} else if n != 0 || after != (api.Head{}) || ok {
				t.Errorf("table %d of %d: %d %x %v", table, len(tables), n, after, ok)
			}
		}
	}
}

// One also takes rules that no configuration may have.
func TestOneOfUnsoundRules(t *testing.T) {
	wild := api.Rule{Priority: math.MinInt, Do: api.Do{Kind: 77, Port: math.MaxInt, Table: math.MinInt, Set: lo(3, 2)}}
	tables := [][]api.Rule{{{Match: lo(1, 2), Priority: math.MaxInt}, wild}}
	if n, after, ok := One(tables, 0, api.Head{Lo: 5}); n != 1 || after != (api.Head{Lo: 7}) || !ok {
		t.Error(n, after, ok)
	}
	if n, after, ok := One([][]api.Rule{make([]api.Rule, 500)}, 0, api.Head{Lo: 5}); n != 0 || after != (api.Head{Lo: 5}) || !ok {
		t.Error(n, after, ok)
	}
}

func TestRunDelivered(t *testing.T) {
	c := row(
		[][]api.Rule{{drop(), matching(dst(7), 1, forward(1))}},
		[][]api.Rule{{matching(dst(7), 2, forward(1)), drop()}},
		[][]api.Rule{{matching(dst(8), 1, drop()), drop(), matching(dst(7), 1, deliver(2))}},
	)
	h := api.Head{Hi: 5, Lo: 7}
	on := stamped(h, 3, 9)
	expect(t, c, spot(0, 3), h, 9, api.Run{End: api.Delivered, At: spot(2, 2), Hops: []api.Hop{
		{Switch: 0, Rule: 1, Head: on}, {Switch: 1, Rule: 0, Head: on}, {Switch: 2, Rule: 2, Head: on},
	}})
	// What enters in the middle of the row goes the rest of it.
	on = stamped(h, 2, 0)
	expect(t, c, spot(1, 0), h, 0, api.Run{End: api.Delivered, At: spot(2, 2), Hops: []api.Hop{
		{Switch: 1, Rule: 0, Head: on}, {Switch: 2, Rule: 2, Head: on},
	}})
}

// A packet may leave where it came in, by its own port or by another one.
func TestRunDeliveredAtOnce(t *testing.T) {
	for _, port := range []int{0, 3} {
		c := row([][]api.Rule{{deliver(port)}}, [][]api.Rule{nil}, [][]api.Rule{nil})
		expect(t, c, spot(0, 0), api.Head{}, 1, api.Run{End: api.Delivered, At: spot(0, port), Hops: []api.Hop{{Head: stamped(api.Head{}, 0, 1)}}})
	}
}

func TestRunDropped(t *testing.T) {
	c := row([][]api.Rule{{setting(lo(1, 1), drop())}}, [][]api.Rule{{setting(lo(2, 2), forward(1))}}, [][]api.Rule{{drop()}})
	on := stamped(api.Head{}, 0, 2)
	expect(t, c, spot(0, 0), api.Head{}, 2, api.Run{End: api.Dropped, Hops: []api.Hop{{Head: on}}})
	on = stamped(api.Head{}, 2, 2)
	after := on
	after.Lo = 2
	expect(t, c, spot(1, 0), api.Head{}, 2, api.Run{End: api.Dropped, Hops: []api.Hop{{Switch: 1, Head: on}, {Switch: 2, Head: after}}})
}

// A lookup without a rule is a hop, too.
func TestRunMissed(t *testing.T) {
	c := row([][]api.Rule{nil}, [][]api.Rule{{matching(dst(1), 0, drop()), forward(1)}}, [][]api.Rule{{drop(), goTo(1)}, {matching(dst(9), 0, drop())}})
	on := stamped(api.Head{Lo: 1}, 0, 255)
	expect(t, c, spot(0, 0), api.Head{Lo: 1}, 255, api.Run{End: api.Missed, Hops: []api.Hop{{Rule: -1, Head: on}}})
	c.Tables[2][0] = c.Tables[2][0][1:]
	on = stamped(api.Head{}, 2, 255)
	expect(t, c, spot(1, 0), api.Head{}, 255, api.Run{End: api.Missed, Hops: []api.Hop{
		{Switch: 1, Rule: 1, Head: on}, {Switch: 2, Rule: 0, Head: on}, {Switch: 2, Table: 1, Rule: -1, Head: on},
	}})
}

// Goto stays at the switch; Forward begins at table 0 of the next one, from whatever table it is done.
func TestRunThroughTables(t *testing.T) {
	c := row(
		[][]api.Rule{{drop(), matching(dst(7), 1, goTo(2))}, {deliver(0)}, {drop(), drop(), matching(dst(7), 1, forward(1))}},
		[][]api.Rule{{goTo(1)}, {drop(), matching(dst(7), 1, goTo(2))}, {forward(1)}},
		[][]api.Rule{{goTo(1)}, {deliver(3)}, {drop()}},
	)
	on := stamped(api.Head{Lo: 7}, 0, 4)
	expect(t, c, spot(0, 0), api.Head{Lo: 7}, 4, api.Run{End: api.Delivered, At: spot(2, 3), Hops: []api.Hop{
		{Switch: 0, Table: 0, Rule: 1, Head: on}, {Switch: 0, Table: 2, Rule: 2, Head: on},
		{Switch: 1, Table: 0, Rule: 0, Head: on}, {Switch: 1, Table: 1, Rule: 1, Head: on}, {Switch: 1, Table: 2, Rule: 0, Head: on},
		{Switch: 2, Table: 0, Rule: 0, Head: on}, {Switch: 2, Table: 1, Rule: 0, Head: on},
	}})
}

// What a rule sets is what the next lookup goes by; a hop tells the header ahead of its own rule.
func TestRunSetsBits(t *testing.T) {
	c := row(
		[][]api.Rule{{setting(dst(1), goTo(1))}, {drop(), matching(dst(1), 1, setting(dst(2), forward(1)))}},
		[][]api.Rule{{matching(dst(1), 0, drop()), matching(dst(2), 0, setting(lo(3, 1), forward(1)))}},
		[][]api.Rule{{matching(dst(3), 0, setting(dst(4), deliver(2)))}},
	)
	// With a Set that is not sound, no packet runs.
	if _, e := Run(c, spot(0, 0), api.Head{}, 1); e != api.ErrForm {
		t.Error(e)
	}
	c.Tables[1][0][1].Do.Set = lo(1, 1)
	on := func(v uint64) api.Head { return stamped(api.Head{Hi: 1, Lo: 1<<40 | v}, 0, 1) }
	expect(t, c, spot(0, 0), api.Head{Hi: 1, Lo: 1<<40 | 9}, 1, api.Run{End: api.Delivered, At: spot(2, 2), Hops: []api.Hop{
		{Switch: 0, Table: 0, Rule: 0, Head: on(9)}, {Switch: 0, Table: 1, Rule: 1, Head: on(1)},
		{Switch: 1, Rule: 1, Head: on(2)}, {Switch: 2, Rule: 0, Head: on(3)},
	}})
}

// A rule may set the fields of the stamp: a packet is stamped only where it enters.
func TestRunIsStampedOnce(t *testing.T) {
	set := api.Cube{Value: api.Head{Hi: 0xabcd<<48 | 0x123456<<24}, Care: api.Head{Hi: 0xffffffffff000000}}
	c := row([][]api.Rule{{setting(set, forward(1))}}, [][]api.Rule{{forward(1)}}, [][]api.Rule{{drop()}})
	on := stamped(api.Head{Lo: 1}, 0, 7)
	changed := api.Head{Hi: 0xabcd<<48 | 0x123456<<24, Lo: 1}
	expect(t, c, spot(0, 0), api.Head{Lo: 1}, 7, api.Run{End: api.Dropped, Hops: []api.Hop{
		{Switch: 0, Head: on}, {Switch: 1, Head: changed}, {Switch: 2, Head: changed},
	}})
}

// Whatever a packet brought along in the fields of the stamp is gone.
func TestRunStamps(t *testing.T) {
	r := rand.New(rand.NewSource(2))
	c := row([][]api.Rule{{drop()}}, [][]api.Rule{{drop()}}, [][]api.Rule{{drop()}})
	for s, tenant := range map[api.Spot]int{spot(0, 0): 0, spot(0, 3): 3, spot(1, 0): 2, spot(2, 2): 1, spot(2, 3): 0} {
		for version := range 256 {
			for _, h := range []api.Head{{}, {Hi: math.MaxUint64, Lo: math.MaxUint64}, {Hi: r.Uint64(), Lo: r.Uint64()}} {
				got, e := Run(c, s, h, version)
				if e != api.OK || len(got.Hops) != 1 || got.Hops[0] != (api.Hop{Switch: s.Switch, Head: stamped(h, tenant, version)}) {
					t.Fatalf("%x at %v, version %d: %+v %d", h, s, version, got, e)
				}
			}
		}
	}
}

// Rules can match the fields of the stamp, so that the version and the edge decide.
func TestRunMatchesTheStamp(t *testing.T) {
	tag := api.Cube{Value: api.Head{Hi: 6 << 48}, Care: api.Head{Hi: 0xff << 48}}
	net := api.Cube{Value: api.Head{Hi: 4 << 24}, Care: api.Head{Hi: 0xffffff << 24}}
	c := row([][]api.Rule{{drop(), matching(tag, 1, deliver(0)), matching(net, 2, deliver(3))}}, [][]api.Rule{{drop()}}, [][]api.Rule{{drop()}})
	for version := range 256 {
		for _, port := range []int{0, 3} {
			want := api.Run{End: api.Dropped, Hops: []api.Hop{{Head: stamped(api.Head{}, port, version)}}}
			if port == 3 {
				want.End, want.At, want.Hops[0].Rule = api.Delivered, spot(0, 3), 2
			} else if version == 6 {
				want.End, want.At, want.Hops[0].Rule = api.Delivered, spot(0, 0), 1
			}
			// The header claims to be of that tenant and version.
			expect(t, c, spot(0, port), api.Head{Hi: tag.Value.Hi | net.Value.Hi}, version, want)
		}
	}
}

func TestRunLooped(t *testing.T) {
	c := row([][]api.Rule{{goTo(1)}, {forward(1)}}, [][]api.Rule{{forward(2)}}, [][]api.Rule{{drop()}})
	on := stamped(api.Head{}, 0, 3)
	want := api.Run{End: api.Looped}
	for len(want.Hops) < 10800 {
		want.Hops = append(want.Hops, api.Hop{Head: on}, api.Hop{Table: 1, Head: on}, api.Hop{Switch: 1, Head: on})
	}
	got, e := Run(c, spot(0, 0), api.Head{}, 3)
	if e != api.OK || !same(got, want) {
		t.Errorf("%d hops, end %d at %v, %d", len(got.Hops), got.End, got.At, e)
	}
}

// counter: two switches send a packet to and fro, and count its lowest 14 bits up. What is done with all ones is last.
func counter(last ...api.Rule) api.Config {
	c := api.Config{
		Topo:   api.Topo{Ports: [][]api.Port{{link(1, 1, 1), edge(0)}, {edge(1), link(0, 0, 1), edge(0)}}},
		Policy: api.Policy{Tenants: 2},
	}
	for n := range 2 {
		var list []api.Rule
		for k := range 14 {
			ones := uint64(1)<<k - 1
			list = append(list, matching(lo(ones, 2*ones+1), 0, setting(lo(ones+1, 2*ones+1), forward(n))))
		}
		for _, r := range last {
			list = append(list, matching(lo(1<<14-1, 1<<14-1), 0, r))
		}
		c.Tables = append(c.Tables, [][]api.Rule{list})
	}
	c.Tables[0][0] = c.Tables[0][0][:14]
	return c
}

// A run that ends with its last possible hop has ended; one that would need one more is Looped.
func TestRunsOfMostHops(t *testing.T) {
	for end, last := range map[int][]api.Rule{api.Dropped: {drop()}, api.Delivered: {deliver(2)}, api.Missed: nil} {
		c := counter(last...)
		for _, hops := range []int{2, 10798, 10800, 10802} {
			got, e := Run(c, spot(0, 1), api.Head{Lo: uint64(1<<14 - hops)}, 0)
			want, length := end, hops
			if hops > 10800 {
				want, length = api.Looped, 10800
			}
			if e != api.OK || got.End != want || len(got.Hops) != length || (got.At == spot(1, 2)) != (want == api.Delivered) {
				t.Errorf("end %d, %d hops: %d, %d hops at %v, %d", end, hops, got.End, len(got.Hops), got.At, e)
			}
			for n, hop := range got.Hops {
				if hop.Switch != n%2 || hop.Table != 0 || hop.Head.Lo != uint64(1<<14-hops+n) {
					t.Fatalf("end %d, hop %d: %+v", end, n, hop)
				}
			}
		}
		// The same a hop on: what enters at the other switch is there one hop earlier.
		for hops, want := range map[int]int{10799: end, 10801: api.Looped} {
			got, e := Run(c, spot(1, 0), api.Head{Lo: uint64(1<<14 - hops)}, 0)
			if e != api.OK || got.End != want || len(got.Hops) != min(hops, 10800) {
				t.Errorf("end %d, %d hops from the other switch: %d, %d hops, %d", end, hops, got.End, len(got.Hops), e)
			}
		}
	}
}

// wrongs are configurations of row's tables of which none is sound.
func wrongs() []api.Config {
	base := func() api.Config { return row([][]api.Rule{{drop()}}, [][]api.Rule{{drop()}}, [][]api.Rule{{drop()}}) }
	out := []api.Config{{}}
	for _, spoil := range []func(*api.Config){
		func(c *api.Config) { c.Topo.Ports = nil },
		func(c *api.Config) { c.Topo.Ports[2] = make([]api.Port, 7) },
		func(c *api.Config) { c.Topo.Ports[2][0].Cost = 0 },
		func(c *api.Config) { c.Policy.Tenants = 0 },
		func(c *api.Config) { c.Policy.Peers = [][2]int{{0, 4}} },
		func(c *api.Config) { c.Tables = c.Tables[:2] },
		func(c *api.Config) { c.Tables[2] = nil },
		func(c *api.Config) { c.Tables[2] = make([][]api.Rule, 4) },
		func(c *api.Config) { c.Tables[2][0] = make([]api.Rule, 97) },
		func(c *api.Config) { c.Tables[2][0][0].Do.Kind = 5 },
		func(c *api.Config) { c.Tables[0][0] = append(c.Tables[0][0], goTo(1)) },
		func(c *api.Config) { c.Tables[0][0] = append(c.Tables[0][0], goTo(0)) },
		func(c *api.Config) { c.Tables[0][0] = append(c.Tables[0][0], forward(0)) },
		func(c *api.Config) { c.Tables[0][0] = append(c.Tables[0][0], deliver(math.MinInt)) },
		func(c *api.Config) { c.Tables[0][0][0].Match = lo(1, 0) },
	} {
		c := base()
		spoil(&c)
		out = append(out, c)
	}
	return out
}

// A configuration is sound as a whole, or no packet runs; a packet would come to few of these wrongs.
func TestRunOfUnsoundConfigs(t *testing.T) {
	for n, c := range wrongs() {
		for _, version := range []int{1, -1, 256} {
			for _, s := range []api.Spot{spot(0, 0), spot(0, 1), spot(9, -9)} {
				got, e := Run(c, s, api.Head{Lo: 7}, version)
				if want := config.Sound(c); e != want || e == api.OK || !same(got, api.Run{}) {
					t.Errorf("wrong %d, version %d, %v: %+v %d, not %d", n, version, s, got, e, want)
				}
			}
		}
	}
}

func TestRunAsksTheStamp(t *testing.T) {
	c := row([][]api.Rule{{drop()}}, [][]api.Rule{{drop()}}, [][]api.Rule{{drop()}})
	for _, number := range numbers() {
		for _, port := range numbers() {
			for _, version := range numbers() {
				s := spot(number, port)
				got, e := Run(c, s, api.Head{Lo: 7}, version)
				want := api.OK
				if version < 0 || version > 255 {
					want = api.ErrRange
				} else if !slices.Contains([]api.Spot{spot(0, 0), spot(0, 3), spot(1, 0), spot(2, 2), spot(2, 3)}, s) {
					want = api.ErrNone
				}
				if e != want || (e == api.OK) != (got.End == api.Dropped) || e != api.OK && !same(got, api.Run{}) {
					t.Fatalf("%v, version %d: %+v %d, not %d", s, version, got, e, want)
				}
			}
		}
	}
}

// somePorts are switches with two edges each, and links laid at random, some side by side.
func somePorts(r *rand.Rand) [][]api.Port {
	ports := make([][]api.Port, 1+r.Intn(4))
	for n := range ports {
		ports[n] = []api.Port{edge(r.Intn(4)), {}, edge(r.Intn(4))}
	}
	for range r.Intn(7) {
		a, b := r.Intn(len(ports)), r.Intn(len(ports))
		if a == b || len(ports[a]) == api.MaxPorts || len(ports[b]) == api.MaxPorts {
			continue
		}
		here, there := link(b, len(ports[b]), 1), link(a, len(ports[a]), 1)
		ports[a], ports[b] = append(ports[a], here), append(ports[b], there)
	}
	return ports
}

// someRule is a rule of a table out of some, of a switch with these ports. It looks at few bits, and sets few.
func someRule(r *rand.Rand, table, tables int, ports []api.Port) api.Rule {
	few := func() api.Cube {
		// The bits of Care are two of the lowest four, and at times one of Tag or Net.
		care := api.Head{Lo: 1<<r.Intn(4) | 1<<r.Intn(4)}
		if r.Intn(4) == 0 {
			care.Hi = []uint64{1 << 48, 1 << 24, 1}[r.Intn(3)]
		}
		return api.Cube{Value: api.Head{Hi: r.Uint64() & care.Hi, Lo: r.Uint64() & care.Lo}, Care: care}
	}
	out := drop()
	switch port := r.Intn(len(ports)); {
	case ports[port].Kind == api.Link:
		out = forward(port)
	case table+1 < tables && r.Intn(3) > 0:
		out = goTo(table + 1 + r.Intn(tables-table-1))
	case ports[port].Kind == api.Edge:
		out = deliver(port)
	}
	return setting(few(), matching(few(), r.Intn(3), out))
}

func someConfig(r *rand.Rand) api.Config {
	c := api.Config{Topo: api.Topo{Ports: somePorts(r)}, Policy: api.Policy{Tenants: 4}}
	for _, ports := range c.Topo.Ports {
		tables := make([][]api.Rule, 1+r.Intn(3))
		for k := range tables {
			for range r.Intn(8) {
				tables[k] = append(tables[k], someRule(r, k, len(tables), ports))
			}
			if r.Intn(4) > 0 {
				tables[k] = append(tables[k], setting(lo(r.Uint64()&6, 6), goOn(r, ports)))
			}
		}
		c.Tables = append(c.Tables, tables)
	}
	return c
}

// goOn is a rule that sends every header on, if the switch has a link.
func goOn(r *rand.Rand, ports []api.Port) api.Rule {
	if last := len(ports) - 1; ports[last].Kind == api.Link {
		return forward(3 + r.Intn(last-2))
	}
	return drop()
}

// Runs and lookups in random configurations are as the chapter's words say, for all ends of runs.
func TestRandomConfigs(t *testing.T) {
	r := rand.New(rand.NewSource(3))
	ends := map[int]int{}
	for range 250 {
		c := someConfig(r)
		if e := config.Sound(c); e != api.OK {
			t.Fatal(e)
		}
		for range 10 {
			h, version := api.Head{Hi: r.Uint64(), Lo: r.Uint64()}, r.Intn(256)
			s := spot(r.Intn(len(c.Topo.Ports)), 2*r.Intn(2))
			want := runByHand(c, s, h, version)
			got, e := Run(c, s, h, version)
			if e != api.OK || !same(got, want) {
				t.Fatalf("%+v, %v, %x: %+v %d, not %+v", c, s, h, got, e, want)
			}
			ends[want.End]++
			tables, table := c.Tables[s.Switch], r.Intn(5)-1
			n, after, ok := One(tables, table, h)
			if wantN, wantAfter, wantOk := oneByHand(tables, table, h); n != wantN || after != wantAfter || ok != wantOk {
				t.Fatalf("%+v, table %d, %x: %d %x %v", tables, table, h, n, after, ok)
			}
		}
	}
	for _, end := range []int{api.Dropped, api.Delivered, api.Missed, api.Looped} {
		if ends[end] < 100 {
			t.Errorf("end %d came up %d times", end, ends[end])
		}
	}
	if len(ends) != 4 {
		t.Error(ends)
	}
}

func TestPassed(t *testing.T) {
	run := func(numbers ...int) api.Run {
		// Neither where a run ends nor a hop's other numbers tell that a switch was passed.
		out := api.Run{End: api.Delivered, At: spot(5, 4)}
		for _, n := range numbers {
			out.Hops = append(out.Hops, api.Hop{Switch: n, Table: 6, Rule: 7, Head: api.Head{Hi: 8, Lo: 8}})
		}
		return out
	}
	for _, passed := range [][]int{nil, {0}, {3}, {0, 1, 2}, {2, 2, 0}, {-1, math.MaxInt}, {math.MinInt, 0, 255}, slices.Repeat([]int{1, 2}, 20000)} {
		for _, n := range numbers() {
			if got := Passed(run(passed...), n); got != slices.Contains(passed, n) {
				t.Errorf("%d of %v: %v", n, passed, got)
			}
		}
	}
	if Passed(api.Run{}, 0) || Passed(api.Run{Hops: []api.Hop{}}, 0) {
		t.Error("a run without hops passes no switch")
	}
}

func TestPassedOfARun(t *testing.T) {
	c := row([][]api.Rule{{drop()}}, [][]api.Rule{{forward(1)}}, [][]api.Rule{nil})
	r, e := Run(c, spot(1, 0), api.Head{}, 0)
	if e != api.OK || Passed(r, 0) || !Passed(r, 1) || !Passed(r, 2) || Passed(r, 3) || Passed(r, -1) {
		t.Error(r, e)
	}
}

// roomy is a list with spare memory behind it, in which something stands.
func roomy[T any](list []T, x T) []T {
	long := append(append(make([]T, 0, len(list)+2), list...), x, x)
	return long[:len(list)]
}

// spares are all lists of a configuration with what stands in their spare memory.
func spares(c api.Config) []any {
	out := []any{slices.Clone(c.Topo.Ports[:cap(c.Topo.Ports)]), slices.Clone(c.Tables[:cap(c.Tables)])}
	for _, ports := range c.Topo.Ports {
		out = append(out, slices.Clone(ports[:cap(ports)]))
	}
	for _, tables := range c.Tables {
		out = append(out, slices.Clone(tables[:cap(tables)]))
		for _, list := range tables {
			out = append(out, slices.Clone(list[:cap(list)]))
		}
	}
	return out
}

func TestArgumentsAreKept(t *testing.T) {
	c := row([][]api.Rule{{goTo(1)}, {forward(1)}}, [][]api.Rule{{forward(1)}}, [][]api.Rule{{deliver(2)}})
	for n, ports := range c.Topo.Ports {
		c.Topo.Ports[n] = roomy(ports, edge(9))
	}
	c.Topo.Ports = roomy(c.Topo.Ports, []api.Port{edge(9)})
	for n, tables := range c.Tables {
		for k, list := range tables {
			tables[k] = roomy(list, goTo(9))
		}
		c.Tables[n] = roomy(tables, []api.Rule{goTo(9)})
	}
	c.Tables = roomy(c.Tables, [][]api.Rule{{goTo(9)}})
	before := spares(c)
	r, e := Run(c, spot(0, 0), api.Head{Lo: 7}, 1)
	if e != api.OK || len(r.Hops) != 4 {
		t.Fatal(r, e)
	}
	One(c.Tables[0], 1, api.Head{Lo: 7})
	if !reflect.DeepEqual(spares(c), before) {
		t.Error("the configuration was changed")
	}
	r.Hops = roomy(r.Hops, api.Hop{Switch: 9})
	hops := slices.Clone(r.Hops[:cap(r.Hops)])
	Passed(r, 9)
	if !slices.Equal(r.Hops[:cap(r.Hops)], hops) {
		t.Error("the run was changed")
	}
}

// Each run has hops of its own, and nothing is kept from one run to the next.
func TestRunsAreNew(t *testing.T) {
	c := row([][]api.Rule{{forward(1)}}, [][]api.Rule{{forward(1)}}, [][]api.Rule{{deliver(2)}})
	first, _ := Run(c, spot(0, 0), api.Head{}, 1)
	hops := slices.Clone(first.Hops)
	second, _ := Run(c, spot(0, 0), api.Head{}, 1)
	for n := range first.Hops[:cap(first.Hops)] {
		first.Hops[:cap(first.Hops)][n] = api.Hop{Switch: 77}
	}
	third, _ := Run(c, spot(0, 0), api.Head{}, 1)
	c.Tables[0][0][0], c.Topo.Ports[0][1] = drop(), api.Port{}
	if !slices.Equal(second.Hops, hops) || !slices.Equal(third.Hops, hops) {
		t.Error("runs share memory")
	}
}
