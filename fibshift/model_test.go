package fibshift_test

import (
	"cmp"
	"maps"
	"slices"
	"testing"

	"fibshift/api"
	"fibshift/fibshift"
)

// model answers as the document's words do, without an engine.
type model struct {
	kind   int
	routes map[api.Prefix]int
	budget int
}

func (m *model) cells() int { return need(m.kind, m.page(px(0, 0), 511)...) }

// need tells how many cells routes need in an engine.
func need(kind int, routes ...api.Route) int {
	switch kind {
	case api.List:
		return len(routes)
	case api.Trie:
		return trieCells(routes)
	}
	return len(routes) + stretches(routes)
}

// trieCells asks of each prefix whether it is a cell: of Len 0, or with a route within it.
func trieCells(routes []api.Route) int {
	sum := 1
	for length := 1; length <= 8; length++ {
		for addr := 0; addr < 256; addr += 256 >> length {
			if slices.ContainsFunc(routes, func(r api.Route) bool {
				return r.Len >= length && addr <= r.Addr && r.Addr < addr+256>>length
			}) {
				sum++
			}
		}
	}
	return sum
}

// stretches asks of each address whether its route is another than that of the one ahead.
func stretches(routes []api.Route) int {
	m := &model{routes: map[api.Prefix]int{}}
	for _, r := range routes {
		m.routes[prefixOf(r)] = r.Next
	}
	sum := 0
	last := api.Route{Len: -1}
	for addr := range 256 {
		// With no route it is all zeros, which no route is: its Next is not 0.
		r, _ := m.lookup(addr)
		if r != last {
			sum++
		}
		last = r
	}
	return sum
}

func (m *model) apply(l []api.Change) (int, api.Errno) {
	if len(l) > 16 {
		return 0, api.ErrMany
	}
	would := maps.Clone(m.routes)
	for i, c := range l {
		p := px(c.Addr, c.Len)
		_, there := would[p]
		switch {
		case !modelPrefix(p):
			return i, api.ErrPrefix
		case c.Next < 0 || c.Next > 255:
			return i, api.ErrNext
		case c.Next == 0 && !there:
			return i, api.ErrNone
		case c.Next == 0:
			delete(would, p)
		default:
			would[p] = c.Next
		}
	}
	now := m.cells()
	was := m.routes
	m.routes = would
	if n := m.cells(); n > m.budget && n > now {
		m.routes = was
		return len(l), api.ErrRoom
	}
	return len(l), api.OK
}

func modelPrefix(p api.Prefix) bool {
	for length, step := 0, 256; length <= 8; length, step = length+1, step/2 {
		for addr := 0; addr < 256; addr += step {
			if p == px(addr, length) {
				return true
			}
		}
	}
	return false
}

func (m *model) lookup(addr int) (api.Route, api.Errno) {
	best := api.Route{Len: -1}
	for p, next := range m.routes {
		if p.Addr <= addr && addr < p.Addr+256>>p.Len && p.Len > best.Len {
			best = rt(p.Addr, p.Len, next)
		}
	}
	if best.Len < 0 {
		return api.Route{}, api.ErrNone
	}
	return best, api.OK
}

func (m *model) page(from api.Prefix, n int) []api.Route {
	var l []api.Route
	for p, next := range m.routes {
		if p.Addr > from.Addr || p.Addr == from.Addr && p.Len >= from.Len {
			l = append(l, rt(p.Addr, p.Len, next))
		}
	}
	slices.SortFunc(l, func(a, b api.Route) int { return cmp.Compare(16*a.Addr+a.Len, 16*b.Addr+b.Len) })
	return l[:min(n, len(l))]
}

func (m *model) advise() int {
	long := 0
	for p := range m.routes {
		if p.Len >= 5 {
			long++
		}
	}
	if len(m.routes) <= 8 {
		return 1
	}
	if long > len(m.routes)-long {
		return 2
	}
	return 3
}

// dice gives the same numbers in each run.
type dice uint32

func (d *dice) below(n int) int {
	*d = *d*1664525 + 1013904223
	return int(*d>>8) % n
}

func (d *dice) prefix() api.Prefix {
	length := d.below(9)
	return px(d.below(1<<length)<<(8-length), length)
}

// budget is such that there is room now and then: one route may need nine cells in a Trie.
func (d *dice) budget(m *model) int {
	if m.kind == api.List {
		return 1 + d.below(60)
	}
	return 1 + d.below(200)
}

// change is now and then one that can't be.
func (d *dice) change() api.Change {
	p := d.prefix()
	c := lay(p.Addr, p.Len, d.below(256))
	switch d.below(40) {
	case 0:
		c.Addr += d.below(300) - 150
	case 1:
		c.Len += d.below(5) - 2
	case 2:
		c.Next = d.below(600) - 300
	}
	return c
}

// batch takes routes that are there away, too.
func (d *dice) batch(m *model) []api.Change {
	var l []api.Change
	for range d.below(18) {
		l = append(l, d.change())
	}
	for _, r := range m.page(d.prefix(), d.below(10)) {
		l = append(l, take(r.Addr, r.Len))
	}
	return l
}

func TestRoutesAnswerAsTheModelDoes(t *testing.T) {
	inEach(t, func(t *testing.T, kind int) {
		for seed := range 20 {
			d := dice(seed)
			m := &model{kind: kind, routes: map[api.Prefix]int{}}
			m.budget = d.budget(m)
			x := table(t, kind, m.budget)
			for range 150 {
				step(t, x, m, &d)
				compare(t, x, m, &d)
				if t.Failed() {
					t.Fatalf("seed %d", seed)
				}
			}
		}
	})
}

func step(t *testing.T, x *fibshift.Table, m *model, d *dice) {
	t.Helper()
	switch d.below(4) {
	case 0:
		c := d.change()
		_, want := m.apply([]api.Change{c})
		if c.Next == 0 {
			wantErr(t, "Delete", x.Delete(px(c.Addr, c.Len)), want)
		} else {
			wantErr(t, "Add", x.Add(px(c.Addr, c.Len), c.Next), want)
		}
	case 1:
		m.budget = d.budget(m)
		wantErr(t, "SetBudget", x.SetBudget(m.budget), api.OK)
	default:
		l := d.batch(m)
		n, e := m.apply(l)
		wantApply(t, x, n, e, l...)
	}
}

func compare(t *testing.T, x *fibshift.Table, m *model, d *dice) {
	t.Helper()
	wantRoutes(t, x, m.page(px(0, 0), 511)...)
	wantCells(t, x, m.cells(), m.budget)
	from, n := d.prefix(), d.below(33)
	wantPage(t, x, from, n, m.page(from, n)...)
	if got, want := x.Advise(), m.advise(); got != want {
		t.Errorf("Advise = %d, want %d", got, want)
	}
	for addr := d.below(8); addr < 256; addr += 8 {
		r, e := x.Lookup(addr)
		if wantR, wantE := m.lookup(addr); r != wantR || e != wantE {
			t.Errorf("Lookup(%d) = %+v, %d, want %+v, %d", addr, r, e, wantR, wantE)
		}
	}
	p := d.prefix()
	want := api.OK
	if m.routes[p] == 0 {
		want = api.ErrNone
	}
	if next, e := x.Get(p); next != m.routes[p] || e != want {
		t.Errorf("Get(%+v) = %d, %d, want %d, %d", p, next, e, m.routes[p], want)
	}
}
