package topo

import (
	"math"
	"math/rand"
	"slices"
	"testing"

	"customhouse/api"
)

func edge(tenant int) api.Port { return api.Port{Kind: api.Edge, Tenant: tenant} }

func link(peer, at, cost int) api.Port {
	return api.Port{Kind: api.Link, Peer: peer, At: at, Cost: cost}
}

func spot(number, port int) api.Spot { return api.Spot{Switch: number, Port: port} }

// square: four switches in a ring; from 0 to 3 both ways cost the same. Switch 4 is on its own.
func square() api.Topo {
	return api.Topo{Ports: [][]api.Port{
		{edge(0), link(2, 0, 2), {}, link(1, 0, 5)},
		{link(0, 3, 5), link(3, 2, 1), edge(1)},
		{link(0, 1, 2), link(3, 0, 4), edge(0), edge(3)},
		{link(2, 1, 4), {}, link(1, 1, 1)},
		{edge(2)},
	}}
}

// pairTopo: two switches with a link, and an Edge and an unused port each.
func pairTopo() api.Topo {
	return api.Topo{Ports: [][]api.Port{
		{edge(0), link(1, 2, 7), {}},
		{{}, edge(1), link(0, 1, 7)},
	}}
}

func copyOf(t api.Topo) api.Topo {
	var out api.Topo
	for _, ports := range t.Ports {
		out.Ports = append(out.Ports, slices.Clone(ports))
	}
	return out
}

func same(a, b api.Topo) bool {
	return slices.EqualFunc(a.Ports, b.Ports, func(x, y []api.Port) bool { return slices.Equal(x, y) })
}

// soundByHand goes by the chapter's words, port by port.
func soundByHand(t api.Topo) api.Errno {
	if len(t.Ports) == 0 || len(t.Ports) > 6 {
		return api.ErrRange
	}
	for _, ports := range t.Ports {
		if len(ports) > 6 {
			return api.ErrRange
		}
	}
	for s := range t.Ports {
		for n, p := range t.Ports[s] {
			unused := p.Kind == 0 && p.Tenant == 0 && p.Peer == 0 && p.At == 0 && p.Cost == 0
			isEdge := p.Kind == 1 && p.Tenant >= 0 && p.Tenant <= 3 && p.Peer == 0 && p.At == 0 && p.Cost == 0
			isLink := p.Kind == 2 && p.Tenant == 0 && p.Cost >= 1 && p.Cost <= 1000 && linkedByHand(t, s, n)
			if !unused && !isEdge && !isLink {
				return api.ErrForm
			}
		}
	}
	return api.OK
}

func linkedByHand(t api.Topo, s, n int) bool {
	p := t.Ports[s][n]
	for s2 := range t.Ports {
		for n2, q := range t.Ports[s2] {
			if s2 != s && p.Peer == s2 && p.At == n2 && q.Kind == 2 && q.Peer == s && q.At == n && q.Cost == p.Cost {
				return true
			}
		}
	}
	return false
}

// pathsByHand calls each with every path without a repeated switch from one switch to another: its first port and its cost.
func pathsByHand(t api.Topo, from, to int, been []int, first, cost int, each func(first, cost int)) {
	if from == to {
		each(first, cost)
		return
	}
	been = append(slices.Clone(been), from)
	for n, p := range t.Ports[from] {
		if p.Kind != api.Link || slices.Contains(been, p.Peer) {
			continue
		}
		begin := first
		if begin < 0 {
			begin = n
		}
		pathsByHand(t, p.Peer, to, been, begin, cost+p.Cost, each)
	}
}

// bestByHand is the minimum cost (or -1) and the smallest first port among the paths of that cost.
func bestByHand(t api.Topo, from, to int) (int, int) {
	best, port := -1, -1
	pathsByHand(t, from, to, nil, -1, 0, func(first, cost int) {
		if best < 0 || cost < best || cost == best && first < port {
			best, port = cost, first
		}
	})
	return best, port
}

// someTopo is a sound topology: each free pair of ports of two switches may get a link.
func someTopo(r *rand.Rand, maxCost int) api.Topo {
	var t api.Topo
	for range 1 + r.Intn(6) {
		t.Ports = append(t.Ports, make([]api.Port, r.Intn(7)))
	}
	for s := range t.Ports {
		for n := range t.Ports[s] {
			if r.Intn(5) == 0 && t.Ports[s][n].Kind == 0 {
				t.Ports[s][n] = edge(r.Intn(4))
			}
		}
	}
	for range r.Intn(14) {
		a, b := r.Intn(len(t.Ports)), r.Intn(len(t.Ports))
		if a == b || len(t.Ports[a]) == 0 || len(t.Ports[b]) == 0 {
			continue
		}
		m, n := r.Intn(len(t.Ports[a])), r.Intn(len(t.Ports[b]))
		if t.Ports[a][m].Kind == 0 && t.Ports[b][n].Kind == 0 {
			cost := 1 + r.Intn(maxCost)
			t.Ports[a][m], t.Ports[b][n] = link(b, n, cost), link(a, m, cost)
		}
	}
	return t
}

func TestSoundTopologies(t *testing.T) {
	full := make([][]api.Port, api.MaxSwitches)
	for n := range full {
		full[n] = make([]api.Port, api.MaxPorts)
		full[n][0] = edge(n % api.MaxTenants)
	}
	twin := api.Topo{Ports: [][]api.Port{{link(1, 1, 1), link(1, 0, api.MaxCost)}, {link(0, 1, api.MaxCost), link(0, 0, 1)}}}
	for n, x := range []api.Topo{square(), pairTopo(), {Ports: full}, twin, {Ports: [][]api.Port{nil}}, {Ports: [][]api.Port{{}, nil}}, {Ports: [][]api.Port{{edge(3)}}}} {
		if e := Sound(x); e != api.OK {
			t.Errorf("topology %d: %d", n, e)
		}
	}
}

func TestSoundSizes(t *testing.T) {
	bad := api.Port{Kind: -1}
	long := func(n int) []api.Port { return make([]api.Port, n) }
	for _, c := range []struct {
		ports [][]api.Port
		want  api.Errno
	}{
		{nil, api.ErrRange},
		{[][]api.Port{}, api.ErrRange},
		{make([][]api.Port, 6), api.OK},
		{make([][]api.Port, 7), api.ErrRange},
		{make([][]api.Port, 100000), api.ErrRange},
		{[][]api.Port{long(6)}, api.OK},
		{[][]api.Port{long(7)}, api.ErrRange},
		{[][]api.Port{nil, long(6), long(7)}, api.ErrRange},
		{[][]api.Port{long(100000), nil}, api.ErrRange},
		{[][]api.Port{{bad}}, api.ErrForm},
		// A size that is wrong comes ahead of a port that is, wherever the two are.
		{[][]api.Port{{bad}, long(7)}, api.ErrRange},
		{[][]api.Port{long(7), {bad}}, api.ErrRange},
		{[][]api.Port{{bad}, nil, nil, nil, nil, nil, nil}, api.ErrRange},
		{[][]api.Port{{bad, {}, {}, {}, {}, {}, {}}}, api.ErrRange},
	} {
		if e := Sound(api.Topo{Ports: c.ports}); e != c.want {
			t.Errorf("%d switches: %d, not %d", len(c.ports), e, c.want)
		}
	}
}

// numbers are around all bounds, and at the ends of the integers.
func numbers() []int {
	return []int{math.MinInt, math.MinInt + 1, math.MinInt32, -1000, -2, -1, 0, 1, 2, 3, 4, 5, 6, 7, 8, 255, 999, 1000, 1001, math.MaxInt32, math.MaxInt32 + 1, math.MaxInt - 1, math.MaxInt}
}

func TestSoundEachField(t *testing.T) {
	fields := []func(*api.Port) *int{
		func(p *api.Port) *int { return &p.Kind },
		func(p *api.Port) *int { return &p.Tenant },
		func(p *api.Port) *int { return &p.Peer },
		func(p *api.Port) *int { return &p.At },
		func(p *api.Port) *int { return &p.Cost },
	}
	oks := 0
	for _, base := range []api.Topo{pairTopo(), square()} {
		for s := range base.Ports {
			for n := range base.Ports[s] {
				for _, f := range fields {
					for _, v := range numbers() {
						x := copyOf(base)
						*f(&x.Ports[s][n]) = v
						want := soundByHand(x)
						if e := Sound(x); e != want {
							t.Errorf("%v at %d, %d: %d, not %d", x.Ports[s][n], s, n, e, want)
						}
						if want == api.OK {
							oks++
						}
					}
				}
			}
		}
	}
	if oks < 50 {
		t.Error("too few sound ones", oks)
	}
}

func TestSoundPorts(t *testing.T) {
	for n, c := range []struct {
		port api.Port
		want api.Errno
	}{
		{api.Port{}, api.OK},
		{api.Port{Tenant: 1}, api.ErrForm},
		{api.Port{Peer: 1}, api.ErrForm},
		{api.Port{At: 1}, api.ErrForm},
		{api.Port{Cost: 1}, api.ErrForm},
		{edge(0), api.OK},
		{edge(3), api.OK},
		{edge(4), api.ErrForm},
		{edge(-1), api.ErrForm},
		{edge(math.MinInt), api.ErrForm},
		{edge(math.MaxInt), api.ErrForm},
		{api.Port{Kind: api.Edge, Peer: 1}, api.ErrForm},
		{api.Port{Kind: api.Edge, At: 1}, api.ErrForm},
		{api.Port{Kind: api.Edge, Cost: 1}, api.ErrForm},
		{api.Port{Kind: api.Edge, Peer: 1, At: 2, Cost: 7}, api.ErrForm},
		{api.Port{Kind: 3}, api.ErrForm},
		{api.Port{Kind: -1}, api.ErrForm},
		{api.Port{Kind: math.MaxInt}, api.ErrForm},
		{api.Port{Kind: math.MinInt}, api.ErrForm},
	} {
		if e := Sound(api.Topo{Ports: [][]api.Port{{edge(1), c.port}}}); e != c.want {
			t.Errorf("port %d: %d, not %d", n, e, c.want)
		}
		// The last port of the last switch is looked at as well as the first one.
		if e := Sound(api.Topo{Ports: [][]api.Port{{c.port}, {}, {{}, edge(0)}}}); e != c.want {
			t.Errorf("port %d first: %d, not %d", n, e, c.want)
		}
	}
}

func TestSoundLinks(t *testing.T) {
	two := func(a, b []api.Port) api.Topo { return api.Topo{Ports: [][]api.Port{a, b}} }
	for name, c := range map[string]struct {
		topo api.Topo
		want api.Errno
	}{
		"cost 1":              {two([]api.Port{link(1, 0, 1)}, []api.Port{link(0, 0, 1)}), api.OK},
		"cost 1000":           {two([]api.Port{link(1, 0, 1000)}, []api.Port{link(0, 0, 1000)}), api.OK},
		"cost 0":              {two([]api.Port{link(1, 0, 0)}, []api.Port{link(0, 0, 0)}), api.ErrForm},
		"cost 1001":           {two([]api.Port{link(1, 0, 1001)}, []api.Port{link(0, 0, 1001)}), api.ErrForm},
		"cost -1":             {two([]api.Port{link(1, 0, -1)}, []api.Port{link(0, 0, -1)}), api.ErrForm},
		"lowest cost":         {two([]api.Port{link(1, 0, math.MinInt)}, []api.Port{link(0, 0, math.MinInt)}), api.ErrForm},
		"highest cost":        {two([]api.Port{link(1, 0, math.MaxInt)}, []api.Port{link(0, 0, math.MaxInt)}), api.ErrForm},
		"unequal costs":       {two([]api.Port{link(1, 0, 5)}, []api.Port{link(0, 0, 6)}), api.ErrForm},
		"tenant of first":     {two([]api.Port{{Kind: api.Link, Tenant: 1, Peer: 1, Cost: 5}}, []api.Port{link(0, 0, 5)}), api.ErrForm},
		"tenants of both":     {two([]api.Port{{Kind: api.Link, Tenant: 1, Peer: 1, Cost: 5}}, []api.Port{{Kind: api.Link, Tenant: 1, Cost: 5}}), api.ErrForm},
		"itself":              {two([]api.Port{link(0, 0, 5)}, nil), api.ErrForm},
		"its own switch":      {two([]api.Port{link(0, 1, 5), link(0, 0, 5)}, nil), api.ErrForm},
		"to an Edge":          {two([]api.Port{link(1, 0, 5)}, []api.Port{edge(0)}), api.ErrForm},
		"to an unused port":   {two([]api.Port{link(1, 0, 5)}, []api.Port{{}}), api.ErrForm},
		"to no port":          {two([]api.Port{link(1, 1, 5)}, []api.Port{link(0, 0, 5)}), api.ErrForm},
		"to no switch":        {two([]api.Port{link(2, 0, 5)}, []api.Port{link(0, 0, 5)}), api.ErrForm},
		"crossed":             {two([]api.Port{link(1, 1, 5), link(1, 0, 5)}, []api.Port{link(0, 1, 5), link(0, 0, 5)}), api.OK},
		"crossed once":        {two([]api.Port{link(1, 0, 5), link(1, 1, 5)}, []api.Port{link(0, 1, 5), link(0, 0, 5)}), api.ErrForm},
		"two to one":          {two([]api.Port{link(1, 0, 5), link(1, 0, 5)}, []api.Port{link(0, 0, 5)}), api.ErrForm},
		"in a ring":           {api.Topo{Ports: [][]api.Port{{link(1, 0, 5)}, {link(2, 0, 5)}, {link(0, 0, 5)}}}, api.ErrForm},
		"back to another one": {api.Topo{Ports: [][]api.Port{{link(1, 0, 5)}, {link(2, 0, 5)}, {link(1, 0, 5)}}}, api.ErrForm},
	} {
		if e := Sound(c.topo); e != c.want {
			t.Errorf("%s: %d, not %d", name, e, c.want)
		}
	}
}

func TestSoundAtRandom(t *testing.T) {
	r := rand.New(rand.NewSource(1))
	var count [16]int
	for range 20000 {
		x := someTopo(r, 3)
		if e := Sound(x); e != api.OK {
			t.Fatal(x, e)
		}
		s := r.Intn(len(x.Ports))
		if len(x.Ports[s]) == 0 {
			continue
		}
		p := &x.Ports[s][r.Intn(len(x.Ports[s]))]
		*p = api.Port{Kind: r.Intn(4), Tenant: r.Intn(2), Peer: r.Intn(3), At: r.Intn(3), Cost: r.Intn(4)}
		want := soundByHand(x)
		if e := Sound(x); e != want {
			t.Fatal(x, e, want)
		}
		count[want]++
	}
	if count[api.OK] < 100 || count[api.ErrForm] < 100 {
		t.Error(count)
	}
}

func TestEdges(t *testing.T) {
	for n, c := range []struct {
		topo api.Topo
		want []api.Spot
	}{
		{api.Topo{}, nil},
		{api.Topo{Ports: [][]api.Port{nil, {}}}, nil},
		{api.Topo{Ports: [][]api.Port{{{}}, {link(0, 0, 1)}}}, nil},
		{pairTopo(), []api.Spot{spot(0, 0), spot(1, 1)}},
		{square(), []api.Spot{spot(0, 0), spot(1, 2), spot(2, 2), spot(2, 3), spot(4, 0)}},
	} {
		if got := Edges(c.topo); !slices.Equal(got, c.want) {
			t.Errorf("topology %d: %v, not %v", n, got, c.want)
		}
	}
}

// No condition of Edges is that the topology is sound: it names every port of that kind.
func TestEdgesOfUnsound(t *testing.T) {
	x := api.Topo{Ports: make([][]api.Port, 9)}
	x.Ports[1] = []api.Port{{Kind: -1}, {Kind: 3}, link(8, 8, -4), edge(0), {}}
	x.Ports[8] = []api.Port{{}, {}, {}, {}, {}, {}, {}, edge(1)}
	if got, want := Edges(x), []api.Spot{spot(1, 3), spot(8, 7)}; !slices.Equal(got, want) {
		t.Error(got, want)
	}
}

func TestOther(t *testing.T) {
	x := square()
	for s := -1; s <= len(x.Ports); s++ {
		for n := -1; n <= 6; n++ {
			var want api.Spot
			is := s >= 0 && s < len(x.Ports) && n >= 0 && n < len(x.Ports[s]) && x.Ports[s][n].Kind == api.Link
			if is {
				want = spot(x.Ports[s][n].Peer, x.Ports[s][n].At)
			}
			got, ok := Other(x, spot(s, n))
			if got != want || ok != is {
				t.Errorf("%d, %d: %v %v, not %v %v", s, n, got, ok, want, is)
			}
			if back, again := Other(x, got); ok && (back != spot(s, n) || !again) {
				t.Errorf("back from %v: %v %v", got, back, again)
			}
		}
	}
	if got, ok := Other(x, spot(0, 3)); got != spot(1, 0) || !ok {
		t.Error(got, ok)
	}
	for _, s := range numbers() {
		for _, n := range numbers() {
			if got, ok := Other(pairTopo(), spot(s, n)); ok != (s == 0 && n == 1 || s == 1 && n == 2) || !ok && got != (api.Spot{}) {
				t.Error(s, n, got, ok)
			}
		}
	}
}

func TestOtherOfUnsound(t *testing.T) {
	spoils := []func(*api.Topo){
		func(x *api.Topo) { x.Ports[0][0].Tenant = 4 },
		func(x *api.Topo) { x.Ports[1][0].Kind = 3 },
		func(x *api.Topo) { x.Ports[0][1].Cost = 8 },
		func(x *api.Topo) { x.Ports[0][1].At = 9 },
		func(x *api.Topo) { x.Ports[0] = append(x.Ports[0], make([]api.Port, 4)...) },
		func(x *api.Topo) { x.Ports = append(x.Ports, nil, nil, nil, nil, nil) },
	}
	for n, spoil := range spoils {
		x := pairTopo()
		spoil(&x)
		for _, s := range []api.Spot{spot(0, 1), spot(1, 2)} {
			if got, ok := Other(x, s); got != (api.Spot{}) || ok {
				t.Error(n, s, got, ok)
			}
		}
	}
	if got, ok := Other(api.Topo{}, api.Spot{}); got != (api.Spot{}) || ok {
		t.Error(got, ok)
	}
}

func TestFar(t *testing.T) {
	for from, want := range [][]int{{0, 5, 2, 6, -1}, {5, 0, 5, 1, -1}, {2, 5, 0, 4, -1}, {6, 1, 4, 0, -1}, {-1, -1, -1, -1, 0}} {
		if far, e := Far(square(), from); e != api.OK || !slices.Equal(far, want) {
			t.Errorf("from %d: %v %d, not %v", from, far, e, want)
		}
	}
	if far, e := Far(api.Topo{Ports: [][]api.Port{nil}}, 0); e != api.OK || !slices.Equal(far, []int{0}) {
		t.Error(far, e)
	}
}

// A row of six switches at the highest cost, with a dear shortcut: a switch is met by the dear path first.
func TestFarOverManySwitches(t *testing.T) {
	row := make([][]api.Port, 6)
	for n := range row {
		row[n] = make([]api.Port, 3)
	}
	for n := range 5 {
		row[n][1], row[n+1][0] = link(n+1, 0, api.MaxCost), link(n, 1, api.MaxCost)
	}
	if far, e := Far(api.Topo{Ports: row}, 0); e != api.OK || !slices.Equal(far, []int{0, 1000, 2000, 3000, 4000, 5000}) {
		t.Error(far, e)
	}
	for n := range 5 {
		row[n][1].Cost, row[n+1][0].Cost = 1, 1
	}
	row[0][2], row[5][2] = link(5, 2, 6), link(0, 2, 6)
	if far, e := Far(api.Topo{Ports: row}, 0); e != api.OK || !slices.Equal(far, []int{0, 1, 2, 3, 4, 5}) {
		t.Error(far, e)
	}
	row[0][2].Cost, row[5][2].Cost = 3, 3
	if far, e := Far(api.Topo{Ports: row}, 0); e != api.OK || !slices.Equal(far, []int{0, 1, 2, 3, 4, 3}) {
		t.Error(far, e)
	}
}

func TestNext(t *testing.T) {
	x := square()
	for _, c := range []struct{ from, to, want int }{
		{0, 1, 3}, {0, 2, 1}, {0, 3, 1}, {1, 0, 0}, {1, 2, 1}, {1, 3, 1}, {2, 0, 0}, {2, 1, 1}, {2, 3, 1}, {3, 0, 0}, {3, 1, 2}, {3, 2, 0},
	} {
		if n, e := Next(x, c.from, c.to); n != c.want || e != api.OK {
			t.Errorf("%d to %d: %d %d, not %d", c.from, c.to, n, e, c.want)
		}
	}
}

// Of links side by side the cheapest one counts, and of equal ones the first.
func TestNextByTwins(t *testing.T) {
	x := api.Topo{Ports: [][]api.Port{
		{edge(0), link(1, 3, 4), link(1, 2, 3), link(1, 0, 3)},
		{link(0, 3, 3), edge(1), link(0, 2, 3), link(0, 1, 4)},
	}}
	if n, e := Next(x, 0, 1); n != 2 || e != api.OK {
		t.Error(n, e)
	}
	if n, e := Next(x, 1, 0); n != 0 || e != api.OK {
		t.Error(n, e)
	}
	if far, e := Far(x, 0); e != api.OK || !slices.Equal(far, []int{0, 3}) {
		t.Error(far, e)
	}
}

func TestPathsAtRandom(t *testing.T) {
	r := rand.New(rand.NewSource(2))
	ties, lost := 0, 0
	for n := range 6000 {
		x := someTopo(r, []int{1, 2, 5, 1000}[n%4])
		for from := range x.Ports {
			far, e := Far(x, from)
			if e != api.OK || len(far) != len(x.Ports) {
				t.Fatal(x, from, far, e)
			}
			for to := range x.Ports {
				cost, port := bestByHand(x, from, to)
				if far[to] != cost {
					t.Fatal(x, from, to, far, cost)
				}
				got, e := Next(x, from, to)
				switch {
				case from == to:
					if got != 0 || e != api.ErrArg {
						t.Fatal(x, from, got, e)
					}
				case cost < 0:
					lost++
					if got != 0 || e != api.ErrNone {
						t.Fatal(x, from, to, got, e)
					}
				default:
					if got != port || e != api.OK {
						t.Fatal(x, from, to, got, e, port)
					}
					if port != slices.IndexFunc(x.Ports[from], func(p api.Port) bool { return p.Kind == api.Link }) {
						ties++
					}
				}
			}
		}
	}
	if ties < 1000 || lost < 1000 {
		t.Error("too few cases", ties, lost)
	}
}

func TestErrorsOfFarAndNext(t *testing.T) {
	bad := pairTopo()
	bad.Ports[1][0].Kind = 9
	wide := pairTopo()
	wide.Ports[1] = append(wide.Ports[1], make([]api.Port, 4)...)
	for _, c := range []struct {
		name     string
		topo     api.Topo
		from, to int
		far      api.Errno
		next     api.Errno
	}{
		{"no switches", api.Topo{}, 0, 0, api.ErrRange, api.ErrRange},
		{"no switches, another one", api.Topo{}, -1, 1, api.ErrRange, api.ErrRange},
		{"many ports", wide, 0, 1, api.ErrRange, api.ErrRange},
		{"many ports, no such switch", wide, 2, 2, api.ErrRange, api.ErrRange},
		{"bad port", bad, 0, 1, api.ErrForm, api.ErrForm},
		{"bad port, the same", bad, 0, 0, api.ErrForm, api.ErrForm},
		{"bad port, no such switch", bad, 7, -1, api.ErrForm, api.ErrForm},
		{"from -1", pairTopo(), -1, 0, api.ErrNone, api.ErrNone},
		{"from 2", pairTopo(), 2, 0, api.ErrNone, api.ErrNone},
		{"from and to 2", pairTopo(), 2, 2, api.ErrNone, api.ErrNone},
		{"from and to -1", pairTopo(), -1, -1, api.ErrNone, api.ErrNone},
		{"the same", pairTopo(), 1, 1, api.OK, api.ErrArg},
		{"to -1", pairTopo(), 0, -1, api.OK, api.ErrNone},
		{"to 2", pairTopo(), 0, 2, api.OK, api.ErrNone},
		{"no path", square(), 0, 4, api.OK, api.ErrNone},
		{"no path back", square(), 4, 0, api.OK, api.ErrNone},
		{"no links", api.Topo{Ports: make([][]api.Port, 2)}, 0, 1, api.OK, api.ErrNone},
	} {
		far, e := Far(c.topo, c.from)
		if e != c.far || e != api.OK && len(far) > 0 {
			t.Errorf("%s: Far is %v %d", c.name, far, e)
		}
		if n, e := Next(c.topo, c.from, c.to); e != c.next || e != api.OK && n != 0 {
			t.Errorf("%s: Next is %d %d", c.name, n, e)
		}
	}
}

func TestSwitchesThatAreNot(t *testing.T) {
	x := pairTopo()
	there := func(n int) bool { return n == 0 || n == 1 }
	for _, from := range numbers() {
		far, e := Far(x, from)
		if there(from) != (e == api.OK) || !there(from) && (e != api.ErrNone || len(far) > 0) {
			t.Error(from, far, e)
		}
		for _, to := range numbers() {
			want := api.OK
			if !there(from) {
				want = api.ErrNone
			} else if from == to {
				want = api.ErrArg
			} else if !there(to) {
				want = api.ErrNone
			}
			if n, e := Next(x, from, to); e != want || e != api.OK && n != 0 {
				t.Error(from, to, n, e)
			}
		}
	}
}

func TestMemory(t *testing.T) {
	x := square()
	spare := make([]api.Port, 1, 4)
	spare[:4][3] = edge(2)
	x.Ports[4] = append(spare[:0], edge(2))
	kept := copyOf(x)
	far1, _ := Far(x, 0)
	far2, _ := Far(x, 0)
	edges1, edges2 := Edges(x), Edges(x)
	Sound(x)
	Next(x, 0, 3)
	Other(x, spot(0, 1))
	far1, edges1 = far1[:cap(far1)], edges1[:cap(edges1)]
	for n := range far1 {
		far1[n] = 77
	}
	for n := range edges1 {
		edges1[n] = spot(7, 7)
	}
	if !same(x, kept) || spare[:4][3] != edge(2) {
		t.Error("an argument was changed")
	}
	if !slices.Equal(far2, []int{0, 5, 2, 6, -1}) || len(edges2) != 5 || edges2[0] != spot(0, 0) {
		t.Error("results share memory")
	}
	if again, e := Far(x, 0); e != api.OK || !slices.Equal(again, far2) {
		t.Error("a result is kept")
	}
}
