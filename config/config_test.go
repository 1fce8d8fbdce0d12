package config

import (
	"math"
	"math/rand"
	"reflect"
	"slices"
	"testing"

	"customhouse/api"
	"customhouse/cube"
	"customhouse/topo"
)

func edge(tenant int) api.Port { return api.Port{Kind: api.Edge, Tenant: tenant} }

func link(peer, at, cost int) api.Port {
	return api.Port{Kind: api.Link, Peer: peer, At: at, Cost: cost}
}

func spot(number, port int) api.Spot { return api.Spot{Switch: number, Port: port} }

func match(dst uint64) api.Cube {
	c, _ := cube.Field(api.DstAt, api.DstBits, dst, api.DstBits)
	return c
}

func drop() api.Rule { return api.Rule{Do: api.Do{Kind: api.Drop}} }

func deliver(port int) api.Rule {
	return api.Rule{Priority: 3, Match: match(7), Do: api.Do{Kind: api.Deliver, Port: port}}
}

func forward(port int) api.Rule {
	return api.Rule{Priority: 2, Match: match(8), Do: api.Do{Kind: api.Forward, Port: port, Set: match(9)}}
}

func goTo(table int) api.Rule {
	return api.Rule{Priority: 1, Match: match(5), Do: api.Do{Kind: api.Goto, Table: table}}
}

// triple: three switches in a row, with edges of three tenants; the first switch has two tables.
func triple() api.Config {
	return api.Config{
		Topo: api.Topo{Ports: [][]api.Port{
			{edge(0), link(1, 2, 5), {}},
			{edge(2), link(2, 0, 6), link(0, 1, 5)},
			{link(1, 1, 6), {}, edge(1), edge(0)},
		}},
		Policy: api.Policy{
			Tenants: 3,
			Peers:   [][2]int{{0, 1}, {2, 1}},
			Ways:    []api.Way{{From: 0, To: 1, Via: 1}, {From: 1, To: 0, Via: 2}},
		},
		Tables: [][][]api.Rule{
			{{goTo(1), deliver(0), drop()}, {forward(1), drop()}},
			{{deliver(0), forward(1), forward(2), drop()}},
			{{deliver(3), forward(0), drop()}},
		},
	}
}

// least is as small as a sound configuration can be.
func least() api.Config {
	return api.Config{Topo: api.Topo{Ports: [][]api.Port{nil}}, Policy: api.Policy{Tenants: 1}, Tables: [][][]api.Rule{{nil}}}
}

// most has as much of everything as there may be.
func most() api.Config {
	c := api.Config{Policy: api.Policy{Tenants: 4, Peers: make([][2]int, 16), Ways: make([]api.Way, 4)}}
	for n := range c.Policy.Peers {
		c.Policy.Peers[n] = [2]int{n / 4, n % 4}
	}
	for n := range c.Policy.Ways {
		c.Policy.Ways[n] = api.Way{From: n, To: 3 - n, Via: 2 + n}
	}
	for n := range 6 {
		ports := make([]api.Port, 6)
		for k := range ports {
			ports[k] = edge((n + k) % 4)
		}
		c.Topo.Ports = append(c.Topo.Ports, ports)
		rules := make([]api.Rule, 32)
		for k := range rules {
			rules[k] = deliver(k % 6)
		}
		c.Tables = append(c.Tables, [][]api.Rule{slices.Clone(rules), slices.Clone(rules), slices.Clone(rules)})
	}
	return c
}

// numbers are around all bounds, and at the ends of the integers.
func numbers() []int {
	out := []int{math.MinInt, math.MinInt + 1, math.MinInt32, -256, 15, 16, 17, 254, 255, 256, 257, 1 << 24, math.MaxInt32, math.MaxInt32 + 1, math.MaxInt - 1, math.MaxInt}
	for n := -3; n <= 8; n++ {
		out = append(out, n)
	}
	return out
}

// copyByHand shares no code with Clone.
func copyByHand(c api.Config) api.Config {
	out := api.Config{Policy: api.Policy{Tenants: c.Policy.Tenants}}
	for _, ports := range c.Topo.Ports {
		out.Topo.Ports = append(out.Topo.Ports, append([]api.Port{}, ports...))
	}
	out.Policy.Peers = append(out.Policy.Peers, c.Policy.Peers...)
	out.Policy.Ways = append(out.Policy.Ways, c.Policy.Ways...)
	for _, tables := range c.Tables {
		var own [][]api.Rule
		for _, list := range tables {
			own = append(own, append([]api.Rule{}, list...))
		}
		out.Tables = append(out.Tables, own)
	}
	return out
}

func TestSoundConfigs(t *testing.T) {
	for n, c := range []api.Config{triple(), least(), most()} {
		if e := Sound(c); e != api.OK {
			t.Errorf("configuration %d: %d", n, e)
		}
	}
}

func TestSoundAsksTheTopology(t *testing.T) {
	for n, ports := range [][][]api.Port{nil, {}, make([][]api.Port, 7), {make([]api.Port, 7)}, {{{Kind: 3}}}, {{link(0, 0, 1)}}, {{edge(4)}}, {{edge(-1)}}} {
		c := least()
		c.Topo.Ports = ports
		c.Tables = make([][][]api.Rule, len(ports))
		for k := range c.Tables {
			c.Tables[k] = [][]api.Rule{nil}
		}
		want := topo.Sound(c.Topo)
		if e := Sound(c); e != want || e == api.OK {
			t.Errorf("topology %d: %d, not %d", n, e, want)
		}
	}
}

func TestSoundTenants(t *testing.T) {
	for _, n := range numbers() {
		c := least()
		c.Policy.Tenants = n
		want := api.ErrRange
		if n >= 1 && n <= 4 {
			want = api.OK
		}
		if e := Sound(c); e != want {
			t.Errorf("%d tenants: %d, not %d", n, e, want)
		}
	}
}

func TestSoundTenantOfAnEdge(t *testing.T) {
	for tenants := 1; tenants <= 4; tenants++ {
		for tenant := range 4 {
			for _, ports := range [][][]api.Port{{{edge(tenant)}}, {{{}, edge(0), edge(tenant)}}, {nil, {edge(0)}, {{}, edge(tenant), edge(0)}}} {
				c := api.Config{Topo: api.Topo{Ports: ports}, Policy: api.Policy{Tenants: tenants}, Tables: make([][][]api.Rule, len(ports))}
				for n := range c.Tables {
					c.Tables[n] = [][]api.Rule{{drop()}}
				}
				want := api.OK
				if tenant >= tenants {
					want = api.ErrRange
				}
				if e := Sound(c); e != want {
					t.Errorf("tenant %d of %d at %v: %d, not %d", tenant, tenants, ports, e, want)
				}
			}
		}
	}
}

func TestSoundNumberOfPeersAndWays(t *testing.T) {
	for n := range 40 {
		c := least()
		c.Policy.Peers = make([][2]int, n)
		if e := Sound(c); (e == api.OK) != (n <= 16) || e != api.OK && e != api.ErrRange {
			t.Errorf("%d peers: %d", n, e)
		}
		c = least()
		c.Policy.Ways = make([]api.Way, n)
		if e := Sound(c); (e == api.OK) != (n <= 4) || e != api.OK && e != api.ErrRange {
			t.Errorf("%d ways: %d", n, e)
		}
	}
}

func TestSoundNumbersOfThePolicy(t *testing.T) {
	for _, base := range []api.Config{triple(), most()} {
		tenants, switches := base.Policy.Tenants, len(base.Topo.Ports)
		check := func(name string, bound, v int, c api.Config) {
			want := api.ErrForm
			if v >= 0 && v < bound {
				want = api.OK
			}
			if e := Sound(c); e != want {
				t.Errorf("%s %d: %d, not %d", name, v, e, want)
			}
		}
		for _, v := range numbers() {
			for n := range base.Policy.Peers {
				for side := range 2 {
					c := copyByHand(base)
					c.Policy.Peers[n][side] = v
					check("peer", tenants, v, c)
				}
			}
			for n := range base.Policy.Ways {
				c := copyByHand(base)
				c.Policy.Ways[n].From = v
				check("From", tenants, v, c)
				c = copyByHand(base)
				c.Policy.Ways[n].To = v
				check("To", tenants, v, c)
				c = copyByHand(base)
				c.Policy.Ways[n].Via = v
				check("Via", switches, v, c)
			}
		}
	}
}

// A tenant may be its own peer, a pair may stand twice and both ways round, and a way may lead from a tenant to itself.
func TestSoundRepeats(t *testing.T) {
	c := triple()
	c.Policy.Peers = [][2]int{{1, 1}, {0, 1}, {0, 1}, {1, 0}}
	c.Policy.Ways = []api.Way{{From: 2, To: 2, Via: 0}, {From: 2, To: 2, Via: 0}, {From: 0, To: 2, Via: 2}}
	if e := Sound(c); e != api.OK {
		t.Error(e)
	}
}

func TestSoundNumberOfTableLists(t *testing.T) {
	for switches := 1; switches <= 6; switches++ {
		for lists := range 9 {
			c := api.Config{Topo: api.Topo{Ports: make([][]api.Port, switches)}, Policy: api.Policy{Tenants: 1}}
			for range lists {
				c.Tables = append(c.Tables, [][]api.Rule{{drop()}})
			}
			want := api.OK
			if lists != switches {
				want = api.ErrRange
			}
			if e := Sound(c); e != want {
				t.Errorf("%d lists for %d switches: %d, not %d", lists, switches, e, want)
			}
		}
	}
}

// wrongTables are tables that no switch may have, by the errors of table.Sound.
func wrongTables() map[api.Errno][][][]api.Rule {
	many := make([]api.Rule, 97)
	for n := range many {
		many[n] = drop()
	}
	unsound := drop()
	unsound.Match = api.Cube{Value: api.Head{Lo: 1}}
	return map[api.Errno][][][]api.Rule{
		api.ErrRange: {nil, {}, make([][]api.Rule, 4)},
		api.ErrRules: {{many}, {many[:48], many[:49]}},
		api.ErrForm:  {{{unsound}}, {{drop(), {}}}, {nil, {goTo(1)}}, {{goTo(1)}}, {{deliver(9)}}, {nil, nil, {drop(), forward(-1)}}},
	}
}

func TestSoundAsksTheTables(t *testing.T) {
	for want, all := range wrongTables() {
		for k, tables := range all {
			for n := range 3 {
				c := triple()
				c.Tables[n] = tables
				if e := Sound(c); e != want {
					t.Errorf("tables %d of error %d at switch %d: %d", k, want, n, e)
				}
			}
		}
	}
}

func TestSoundFirstSwitchWithWrongTables(t *testing.T) {
	for first, a := range wrongTables() {
		for second, b := range wrongTables() {
			for _, places := range [][2]int{{0, 1}, {0, 2}, {1, 2}} {
				c := triple()
				c.Tables[places[0]], c.Tables[places[1]] = a[0], b[0]
				if e := Sound(c); e != first {
					t.Errorf("errors %d and %d at %v: %d", first, second, places, e)
				}
			}
		}
	}
}

// A rule is held against the ports of its own switch.
func TestSoundPortsOfEachSwitch(t *testing.T) {
	base := triple()
	for n := range base.Tables {
		for port := range 6 {
			kind := 0
			if port < len(base.Topo.Ports[n]) {
				kind = base.Topo.Ports[n][port].Kind
			}
			for _, r := range []api.Rule{deliver(port), forward(port)} {
				c := triple()
				c.Tables[n] = [][]api.Rule{{r}}
				fits := kind == api.Edge && r.Do.Kind == api.Deliver || kind == api.Link && r.Do.Kind == api.Forward
				if e := Sound(c); (e == api.OK) != fits || e != api.OK && e != api.ErrForm {
					t.Errorf("kind %d to port %d of switch %d: %d", r.Do.Kind, port, n, e)
				}
			}
		}
	}
}

// spoiler makes a configuration wrong in a way that comes at a place of the chapter's order.
type spoiler struct {
	place int
	e     api.Errno
	spoil func(*api.Config)
}

func spoilers() []spoiler {
	return []spoiler{
		{0, api.ErrRange, func(c *api.Config) { c.Topo.Ports[0] = make([]api.Port, 7) }},
		{1, api.ErrForm, func(c *api.Config) { c.Topo.Ports[2][1].Kind = 9 }},
		{2, api.ErrRange, func(c *api.Config) { c.Policy.Tenants = 0 }},
		{2, api.ErrRange, func(c *api.Config) { c.Policy.Tenants = 5 }},
		{2, api.ErrRange, func(c *api.Config) { c.Policy.Tenants = 2 }},
		{2, api.ErrRange, func(c *api.Config) { c.Policy.Peers = append(c.Policy.Peers, make([][2]int, 15)...) }},
		{2, api.ErrRange, func(c *api.Config) { c.Policy.Ways = append(c.Policy.Ways, make([]api.Way, 3)...) }},
		{3, api.ErrForm, func(c *api.Config) { c.Policy.Peers[0][0] = 3 }},
		{3, api.ErrForm, func(c *api.Config) { c.Policy.Peers[1][1] = -1 }},
		{3, api.ErrForm, func(c *api.Config) { c.Policy.Ways[0].From = 3 }},
		{3, api.ErrForm, func(c *api.Config) { c.Policy.Ways[1].To = -1 }},
		{3, api.ErrForm, func(c *api.Config) { c.Policy.Ways[1].Via = 3 }},
		{4, api.ErrRange, func(c *api.Config) { c.Tables = append(c.Tables, nil) }},
		{4, api.ErrRange, func(c *api.Config) { c.Tables = c.Tables[:2] }},
		{5, api.ErrRules, func(c *api.Config) { c.Tables[0][1] = make([]api.Rule, 97) }},
		{6, api.ErrForm, func(c *api.Config) { c.Tables[1][0][0].Priority = -1 }},
	}
}

func TestSoundOrderOfErrors(t *testing.T) {
	for k, a := range spoilers() {
		for l, b := range spoilers() {
			if a.place > b.place {
				continue
			}
			for _, order := range [][]spoiler{{a, b}, {b, a}} {
				c := triple()
				for _, x := range order {
					x.spoil(&c)
				}
				if e := Sound(c); e != a.e {
					t.Errorf("wrongs %d and %d: %d, not %d", k, l, e, a.e)
				}
			}
		}
	}
}

// allowedByHand goes by the chapter's words.
func allowedByHand(p api.Policy, from, to int) bool {
	tenants := map[int]int{}
	for n := 0; n < p.Tenants && n < 10; n++ {
		tenants[n] = 1
	}
	listed := false
	for _, x := range p.Peers {
		listed = listed || x[0] == from && x[1] == to || x[0] == to && x[1] == from
	}
	return tenants[from] == 1 && tenants[to] == 1 && (from == to || listed)
}

func TestAllowed(t *testing.T) {
	p := triple().Policy
	for _, c := range []struct {
		from, to int
		want     bool
	}{
		{0, 0, true}, {1, 1, true}, {2, 2, true}, {0, 1, true}, {1, 0, true}, {1, 2, true}, {2, 1, true},
		{0, 2, false}, {2, 0, false}, {3, 3, false}, {-1, -1, false}, {0, 3, false}, {3, 0, false},
	} {
		if got := Allowed(p, c.from, c.to); got != c.want {
			t.Errorf("%d to %d: %v", c.from, c.to, got)
		}
	}
}

// The policies are not all sound: some have peers that are no tenants.
func TestAllowedInAllPolicies(t *testing.T) {
	for tenants := -2; tenants <= 5; tenants++ {
		for a := -1; a <= 5; a++ {
			for b := -1; b <= 5; b++ {
				for _, peers := range [][][2]int{nil, {}, {{a, b}}, {{0, 0}, {a, b}}, {{a, b}, {1, 2}}, {{a, a}, {b, b}}} {
					p := api.Policy{Tenants: tenants, Peers: peers}
					for from := -2; from <= 6; from++ {
						for to := -2; to <= 6; to++ {
							if got := Allowed(p, from, to); got != allowedByHand(p, from, to) {
								t.Fatal(p, from, to, got)
							}
						}
					}
				}
			}
		}
	}
}

func TestAllowedAtTheEndsOfIntegers(t *testing.T) {
	for _, tenants := range []int{math.MinInt, math.MinInt + 1, -1, 0, 1, 4, math.MaxInt} {
		for _, from := range numbers() {
			for _, to := range numbers() {
				p := api.Policy{Tenants: tenants, Peers: [][2]int{{math.MaxInt - 1, 2}}}
				both := from >= 0 && from < tenants && to >= 0 && to < tenants
				listed := from == math.MaxInt-1 && to == 2 || to == math.MaxInt-1 && from == 2
				if got := Allowed(p, from, to); got != (both && (from == to || listed)) {
					t.Error(tenants, from, to, got)
				}
			}
		}
	}
}

// Ways say by which switches packets go, not whether they may.
func TestAllowedWithoutWays(t *testing.T) {
	p := api.Policy{Tenants: 2, Ways: []api.Way{{From: 0, To: 1}, {From: 1, To: 0}}}
	if Allowed(p, 0, 1) || Allowed(p, 1, 0) {
		t.Error("a way is no pair of peers")
	}
	if Allowed(api.Policy{}, 0, 0) {
		t.Error("the zero policy has no tenants")
	}
}

func TestVias(t *testing.T) {
	p := api.Policy{Tenants: 3, Ways: []api.Way{
		{From: 0, To: 1, Via: 5}, {From: 1, To: 0, Via: 4}, {From: 0, To: 1, Via: 2}, {From: 2, To: 2, Via: 3}, {From: 0, To: 1, Via: 5},
		{From: -1, To: 9, Via: -7}, {From: math.MinInt, To: math.MaxInt, Via: math.MaxInt}, {From: 0, To: 2, Via: 1},
	}}
	for _, c := range []struct {
		from, to int
		want     []int
	}{
		{0, 1, []int{5, 2, 5}}, {1, 0, []int{4}}, {2, 2, []int{3}}, {0, 2, []int{1}}, {2, 0, nil}, {0, 0, nil}, {1, 1, nil}, {1, 2, nil},
		// What it answers is told by the ways alone, sound or not.
		{-1, 9, []int{-7}}, {9, -1, nil}, {math.MinInt, math.MaxInt, []int{math.MaxInt}}, {math.MaxInt, math.MinInt, nil},
	} {
		if got := Vias(p, c.from, c.to); !slices.Equal(got, c.want) {
			t.Errorf("%d to %d: %v, not %v", c.from, c.to, got, c.want)
		}
	}
	if got := Vias(api.Policy{}, 0, 0); len(got) != 0 {
		t.Error(got)
	}
	if got := Vias(api.Policy{Ways: []api.Way{}}, 0, 0); len(got) != 0 {
		t.Error(got)
	}
}

func TestStampOfEachEdge(t *testing.T) {
	for _, c := range []api.Config{triple(), most()} {
		for number, ports := range c.Topo.Ports {
			for n, p := range ports {
				for version := range 256 {
					got, e := Stamp(c, spot(number, n), version)
					want, wantE := api.Cube{}, api.ErrNone
					if p.Kind == api.Edge {
						want.Value.Hi = uint64(version)<<48 | uint64(p.Tenant+1)<<24
						want.Care.Hi = 0xffffffffff000000
						wantE = api.OK
					}
					if got != want || e != wantE {
						t.Fatalf("port %d of switch %d, version %d: %x %d", n, number, version, got, e)
					}
				}
			}
		}
	}
}

// What is set hides whatever a packet brought along in these fields, and keeps all others.
func TestStampOnHeaders(t *testing.T) {
	r := rand.New(rand.NewSource(1))
	s, e := Stamp(triple(), spot(2, 2), 200)
	if e != api.OK {
		t.Fatal(e)
	}
	for range 1000 {
		h := api.Head{Hi: r.Uint64(), Lo: r.Uint64()}
		want := api.Head{Hi: 0<<56 | 200<<48 | 2<<24 | h.Hi&(1<<24-1), Lo: h.Lo}
		if got := cube.Set(h, s); got != want {
			t.Fatalf("%x: %x, not %x", h, got, want)
		}
	}
}

func TestStampVersions(t *testing.T) {
	for _, version := range numbers() {
		got, e := Stamp(triple(), spot(0, 0), version)
		if version >= 0 && version <= 255 {
			if e != api.OK || got == (api.Cube{}) {
				t.Error(version, got, e)
			}
		} else if e != api.ErrRange || got != (api.Cube{}) {
			t.Error(version, got, e)
		}
	}
}

func TestStampSpots(t *testing.T) {
	c := triple()
	for _, number := range numbers() {
		for _, n := range numbers() {
			isEdge := number >= 0 && number < 3 && n >= 0 && n < len(c.Topo.Ports[number]) && c.Topo.Ports[number][n].Kind == api.Edge
			got, e := Stamp(c, spot(number, n), 1)
			if isEdge && e != api.OK || !isEdge && (e != api.ErrNone || got != (api.Cube{})) {
				t.Errorf("switch %d, port %d: %x %d", number, n, got, e)
			}
		}
	}
}

func TestStampOrderOfErrors(t *testing.T) {
	for k, x := range spoilers() {
		c := triple()
		x.spoil(&c)
		for _, s := range []api.Spot{spot(0, 0), spot(0, 1), spot(-1, 0), spot(9, 9)} {
			for _, version := range []int{5, -1, 256} {
				if got, e := Stamp(c, s, version); e != x.e || got != (api.Cube{}) {
					t.Errorf("wrong %d: %x %d, not %d", k, got, e, x.e)
				}
			}
		}
	}
	for _, s := range []api.Spot{spot(0, 1), spot(0, 2), spot(0, 3), spot(3, 0)} {
		for _, version := range []int{math.MinInt, -1, 256, math.MaxInt} {
			if got, e := Stamp(triple(), s, version); e != api.ErrRange || got != (api.Cube{}) {
				t.Error(s, version, got, e)
			}
		}
		if got, e := Stamp(triple(), s, 255); e != api.ErrNone || got != (api.Cube{}) {
			t.Error(s, got, e)
		}
	}
	if got, e := Stamp(api.Config{}, api.Spot{}, 0); e != api.ErrRange || got != (api.Cube{}) {
		t.Error(got, e)
	}
}

// changes alter one thing each, so that no configuration is the same after one.
func changes(c api.Config) []func(*api.Config) {
	var out []func(*api.Config)
	add := func(f func(*api.Config)) { out = append(out, f) }
	for s, ports := range c.Topo.Ports {
		add(func(c *api.Config) { c.Topo.Ports[s] = append(c.Topo.Ports[s], api.Port{}) })
		for n := range ports {
			add(func(c *api.Config) { c.Topo.Ports[s][n].Kind++ })
			add(func(c *api.Config) { c.Topo.Ports[s][n].Tenant++ })
			add(func(c *api.Config) { c.Topo.Ports[s][n].Peer++ })
			add(func(c *api.Config) { c.Topo.Ports[s][n].At++ })
			add(func(c *api.Config) { c.Topo.Ports[s][n].Cost++ })
			add(func(c *api.Config) { c.Topo.Ports[s] = c.Topo.Ports[s][:n] })
		}
	}
	add(func(c *api.Config) { c.Topo.Ports = append(c.Topo.Ports, nil) })
	add(func(c *api.Config) { c.Policy.Tenants++ })
	for n := range c.Policy.Peers {
		add(func(c *api.Config) { c.Policy.Peers[n][0]++ })
		add(func(c *api.Config) { c.Policy.Peers[n][1]++ })
		add(func(c *api.Config) { c.Policy.Peers = c.Policy.Peers[:n] })
		add(func(c *api.Config) {
			c.Policy.Peers[n][0], c.Policy.Peers[n][1] = c.Policy.Peers[n][1], c.Policy.Peers[n][0]
		})
	}
	add(func(c *api.Config) { c.Policy.Peers = append(c.Policy.Peers, [2]int{}) })
	for n := range c.Policy.Ways {
		add(func(c *api.Config) { c.Policy.Ways[n].From++ })
		add(func(c *api.Config) { c.Policy.Ways[n].To++ })
		add(func(c *api.Config) { c.Policy.Ways[n].Via++ })
		add(func(c *api.Config) { c.Policy.Ways = c.Policy.Ways[:n] })
	}
	add(func(c *api.Config) { c.Policy.Ways = append(c.Policy.Ways, api.Way{}) })
	return append(out, tableChanges(c)...)
}

func tableChanges(c api.Config) []func(*api.Config) {
	var out []func(*api.Config)
	add := func(f func(*api.Config)) { out = append(out, f) }
	for s, tables := range c.Tables {
		add(func(c *api.Config) { c.Tables = c.Tables[:s] })
		add(func(c *api.Config) { c.Tables[s] = append(c.Tables[s], nil) })
		for k, list := range tables {
			add(func(c *api.Config) { c.Tables[s] = c.Tables[s][:k] })
			add(func(c *api.Config) { c.Tables[s][k] = append(c.Tables[s][k], api.Rule{}) })
			for n := range list {
				for _, f := range []func(*api.Rule){
					func(r *api.Rule) { r.Priority++ },
					func(r *api.Rule) { r.Match.Value.Hi++ },
					func(r *api.Rule) { r.Match.Value.Lo++ },
					func(r *api.Rule) { r.Match.Care.Hi++ },
					func(r *api.Rule) { r.Match.Care.Lo++ },
					func(r *api.Rule) { r.Do.Kind++ },
					func(r *api.Rule) { r.Do.Port++ },
					func(r *api.Rule) { r.Do.Table++ },
					func(r *api.Rule) { r.Do.Set.Value.Hi++ },
					func(r *api.Rule) { r.Do.Set.Value.Lo++ },
					func(r *api.Rule) { r.Do.Set.Care.Hi++ },
					func(r *api.Rule) { r.Do.Set.Care.Lo++ },
				} {
					add(func(c *api.Config) { f(&c.Tables[s][k][n]) })
				}
				add(func(c *api.Config) { c.Tables[s][k] = c.Tables[s][k][:n] })
			}
		}
	}
	add(func(c *api.Config) { c.Tables = append(c.Tables, nil) })
	return out
}

func TestSame(t *testing.T) {
	for n, c := range []api.Config{triple(), least(), most(), {}} {
		if !Same(c, c) || !Same(c, copyByHand(c)) || !Same(copyByHand(c), c) {
			t.Errorf("configuration %d is not itself", n)
		}
	}
	if Same(triple(), least()) || Same(api.Config{}, least()) || Same(most(), api.Config{}) {
		t.Error("unlike ones are the same")
	}
}

func TestSameAfterEachChange(t *testing.T) {
	c := triple()
	all := changes(c)
	if len(all) < 150 {
		t.Error("too few changes", len(all))
	}
	for n, change := range all {
		d := copyByHand(c)
		change(&d)
		if Same(c, d) || Same(d, c) {
			t.Errorf("change %d is not seen", n)
		}
	}
}

// Lists are equal if they have the same in the same order.
func TestSameGoesByOrder(t *testing.T) {
	for n, swap := range []func(*api.Config){
		func(c *api.Config) { slices.Reverse(c.Topo.Ports) },
		func(c *api.Config) { slices.Reverse(c.Topo.Ports[1]) },
		func(c *api.Config) { slices.Reverse(c.Policy.Peers) },
		func(c *api.Config) { slices.Reverse(c.Policy.Ways) },
		func(c *api.Config) { slices.Reverse(c.Tables) },
		func(c *api.Config) { slices.Reverse(c.Tables[0]) },
		func(c *api.Config) { slices.Reverse(c.Tables[1][0]) },
	} {
		c := triple()
		swap(&c)
		if Same(c, triple()) || Same(triple(), c) {
			t.Errorf("order %d is not seen", n)
		}
	}
	// The same rules, but in other tables.
	one := api.Config{Tables: [][][]api.Rule{{{drop(), drop()}}}}
	for n, tables := range [][][][]api.Rule{{{{drop()}, {drop()}}}, {{{drop()}}, {{drop()}}}, {{nil, {drop(), drop()}}}, {nil, {{drop(), drop()}}}, {{{drop(), drop()}, nil}}, {{{drop(), drop()}}, nil}} {
		if d := (api.Config{Tables: tables}); Same(one, d) || Same(d, one) {
			t.Errorf("tables %d are not the same", n)
		}
	}
}

// hollows are equal ones in a row: with nil lists, and with empty ones.
func hollows() [][2]api.Config {
	return [][2]api.Config{
		{{}, {Topo: api.Topo{Ports: [][]api.Port{}}, Policy: api.Policy{Peers: [][2]int{}, Ways: []api.Way{}}, Tables: [][][]api.Rule{}}},
		{{Topo: api.Topo{Ports: [][]api.Port{nil, nil}}}, {Topo: api.Topo{Ports: [][]api.Port{{}, {}}}}},
		{{Tables: [][][]api.Rule{nil, {nil, {drop()}}}}, {Tables: [][][]api.Rule{{}, {{}, {drop()}}}}},
	}
}

func TestSameOfNilAndEmpty(t *testing.T) {
	all := hollows()
	for n, x := range all {
		if !Same(x[0], x[1]) || !Same(x[1], x[0]) {
			t.Errorf("nil and empty %d are not the same", n)
		}
		for k, y := range all {
			if k != n && (Same(x[0], y[0]) || Same(x[0], y[1]) || Same(x[1], y[0])) {
				t.Errorf("%d and %d are the same", n, k)
			}
		}
	}
	// A list that has an empty list is not empty.
	for n, c := range []api.Config{{Topo: api.Topo{Ports: [][]api.Port{nil}}}, {Tables: [][][]api.Rule{nil}}, {Policy: api.Policy{Peers: [][2]int{{}}}}, {Policy: api.Policy{Ways: []api.Way{{}}}}} {
		if Same(c, api.Config{}) || Same(api.Config{}, c) {
			t.Errorf("configuration %d is not empty", n)
		}
	}
	a, b := api.Config{Tables: [][][]api.Rule{nil}}, api.Config{Tables: [][][]api.Rule{{nil}}}
	if Same(a, b) || Same(b, a) {
		t.Error("no table and an empty one are the same")
	}
}

func TestClone(t *testing.T) {
	odd := triple()
	odd.Policy.Tenants = math.MinInt
	odd.Topo.Ports[1] = nil
	odd.Tables[0] = nil
	odd.Tables[1] = [][]api.Rule{nil, {}, {{Priority: -1}}}
	all := []api.Config{triple(), least(), most(), odd}
	for _, x := range hollows() {
		all = append(all, x[0], x[1])
	}
	for n, c := range all {
		if d := Clone(c); !reflect.DeepEqual(d, c) || !Same(c, d) || Sound(c) != Sound(d) {
			t.Errorf("configuration %d: %v", n, d)
		}
	}
}

func TestCloneHasItsOwnMemory(t *testing.T) {
	c := triple()
	for n, change := range changes(c) {
		d := Clone(c)
		change(&d)
		if !reflect.DeepEqual(c, triple()) {
			t.Fatalf("change %d of a copy is seen in the original", n)
		}
		x := copyByHand(c)
		d = Clone(x)
		change(&x)
		if !Same(d, triple()) {
			t.Fatalf("change %d of the original is seen in a copy", n)
		}
	}
}

// scribble writes into all memory that a list has, spare capacity too.
func scribble[T any](list []T, x T) {
	list = list[:cap(list)]
	for n := range list {
		list[n] = x
	}
}

// scribbleAll scribbles into all lists of a configuration, the inner ones first.
func scribbleAll(c api.Config) {
	for _, tables := range c.Tables {
		for _, list := range tables {
			scribble(list, api.Rule{Priority: 77})
		}
		scribble(tables, nil)
	}
	scribble(c.Tables, nil)
	for _, ports := range c.Topo.Ports {
		scribble(ports, api.Port{Kind: 77})
	}
	scribble(c.Topo.Ports, nil)
	scribble(c.Policy.Peers, [2]int{77, 77})
	scribble(c.Policy.Ways, api.Way{Via: 77})
}

func TestCloneSharesNoSpareMemory(t *testing.T) {
	c := spareTriple()
	a, b := Clone(c), Clone(c)
	scribbleAll(a)
	if !Same(b, triple()) || !Same(c, triple()) {
		t.Error("a copy shares memory")
	}
	scribbleAll(c)
	if !Same(b, triple()) {
		t.Error("a copy shares memory with the original")
	}
	// No list of a copy lies in another one's spare memory.
	d := Clone(triple())
	for n := range d.Topo.Ports {
		_ = append(d.Topo.Ports[n], api.Port{Kind: 77})
	}
	for _, tables := range d.Tables {
		for _, list := range tables {
			_ = append(list, api.Rule{Priority: 77})
		}
		_ = append(tables, []api.Rule{{Priority: 77}})
	}
	if !Same(d, triple()) {
		t.Error("the lists of a copy share memory")
	}
}

// roomy is a list with spare memory behind it, in which something stands.
func roomy[T any](list []T, x T) []T {
	long := append(append(make([]T, 0, len(list)+2), list...), x, x)
	return long[:len(list)]
}

// spareTriple is triple with spare memory behind each list.
func spareTriple() api.Config {
	c := triple()
	for n, ports := range c.Topo.Ports {
		c.Topo.Ports[n] = roomy(ports, edge(9))
	}
	c.Topo.Ports = roomy(c.Topo.Ports, []api.Port{edge(9)})
	c.Policy.Peers = roomy(c.Policy.Peers, [2]int{9, 9})
	c.Policy.Ways = roomy(c.Policy.Ways, api.Way{Via: 9})
	for _, tables := range c.Tables {
		for k, list := range tables {
			tables[k] = roomy(list, goTo(9))
		}
	}
	for n, tables := range c.Tables {
		c.Tables[n] = roomy(tables, []api.Rule{goTo(9)})
	}
	c.Tables = roomy(c.Tables, [][]api.Rule{{goTo(9)}})
	return c
}

// whole is a configuration with what stands in its lists' spare memory.
func whole(c api.Config) api.Config {
	out := copyByHand(c)
	for n, ports := range c.Topo.Ports {
		out.Topo.Ports[n] = slices.Clone(ports[:cap(ports)])
	}
	out.Topo.Ports = append(out.Topo.Ports, c.Topo.Ports[:cap(c.Topo.Ports)][len(c.Topo.Ports):]...)
	out.Policy.Peers = slices.Clone(c.Policy.Peers[:cap(c.Policy.Peers)])
	out.Policy.Ways = slices.Clone(c.Policy.Ways[:cap(c.Policy.Ways)])
	for n, tables := range c.Tables {
		for k, list := range tables {
			out.Tables[n][k] = slices.Clone(list[:cap(list)])
		}
		out.Tables[n] = append(out.Tables[n], tables[:cap(tables)][len(tables):]...)
	}
	out.Tables = append(out.Tables, c.Tables[:cap(c.Tables)][len(c.Tables):]...)
	return out
}

func TestArgumentsAreKept(t *testing.T) {
	c := spareTriple()
	before := whole(c)
	Sound(c)
	Allowed(c.Policy, 0, 2)
	Vias(c.Policy, 0, 1)
	Stamp(c, spot(0, 0), 1)
	Same(c, Clone(c))
	if !reflect.DeepEqual(whole(c), before) {
		t.Error("an argument was changed")
	}
}

func TestViasAreNew(t *testing.T) {
	p := triple().Policy
	a, b := Vias(p, 0, 1), Vias(p, 0, 1)
	scribble(a, 77)
	if !slices.Equal(b, []int{1}) || !slices.Equal(Vias(p, 0, 1), []int{1}) || !slices.Equal(p.Ways, triple().Policy.Ways) {
		t.Error("results share memory")
	}
}
