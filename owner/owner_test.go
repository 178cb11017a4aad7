package owner

import (
	"fmt"
	"math"
	"math/rand"
	"slices"
	"testing"

	"quayside/api"
)

const (
	maxNodes = api.MaxNodes
	maxPages = api.MaxPages

	ok    = api.OK
	arg   = api.ErrArg
	waits = api.ErrWait
	wrong = api.ErrState

	ask   = "Ask"
	ship  = "Ship"
	land  = "Land"
	leave = "Leave"
	fail  = "Fail"
	heal  = "Heal"
)

var (
	kinds   = []Kind{Home, Held, Sent, Lost}
	noKinds = []Kind{math.MinInt, -1, 4, 5, 1<<8 + 1, 1<<32 + 1, 1<<32 + 3, math.MaxInt}
	nodes   = []int{0, 1, 2, 3, 4, 5, 6, 7}
	noNodes = []int{math.MinInt, math.MinInt32, -1 << 32, -8, -1, 8, 9, 1 << 8, 1<<8 + 1, 1 << 32, 1<<32 + 1, math.MaxInt32, math.MaxInt}
	farOff  = []int{math.MinInt, math.MinInt32, -1 << 32, -32, -1, 32, 33, 1 << 8, 1<<8 + 1, 1 << 32, 1<<32 + 1, math.MaxInt32, math.MaxInt}
)

// call is a call that may change a directory. Ship's second node is other.
type call struct {
	name              string
	page, node, other int
}

// answer is what came of a call: Ask has a number, Fail a list.
type answer struct {
	number int
	errno  api.Errno
	pages  []int
}

func (a answer) same(b answer) bool {
	return a.number == b.number && a.errno == b.errno && slices.Equal(a.pages, b.pages)
}

func do(d *Directory, c call) answer {
	switch c.name {
	case ask:
		number, errno := d.Ask(c.page, c.node)
		return answer{number: number, errno: errno}
	case ship:
		return answer{errno: d.Ship(c.page, c.node, c.other)}
	case land:
		return answer{errno: d.Land(c.page, c.node)}
	case leave:
		return answer{errno: d.Leave(c.page, c.node)}
	case heal:
		return answer{errno: d.Heal(c.page)}
	}
	return answer{pages: d.Fail(c.node)}
}

// place is what Where tells of a page.
type place struct {
	kind Kind
	node int
}

// allPlaces are all places where a page can be: at home, and three with each
// node.
func allPlaces() []place {
	all := []place{{Home, 0}}
	for _, k := range kinds[1:] {
		for _, node := range nodes {
			all = append(all, place{k, node})
		}
	}
	return all
}

// at is a directory whose pages are at these places, come to by calls alone.
// What is lost comes first, since a node loses all its pages at once.
func at(t *testing.T, places ...place) *Directory {
	t.Helper()
	d := New(len(places))
	for page, p := range places {
		if p.kind == Lost {
			d.Ask(page, p.node)
			d.Fail(p.node)
		}
	}
	for page, p := range places {
		switch p.kind {
		case Held:
			d.Ask(page, p.node)
		case Sent:
			other := (p.node + 1) % maxNodes
			d.Ask(page, other)
			d.Ship(page, other, p.node)
		}
	}
	wantPlaces(t, d, places...)
	return d
}

func places(d *Directory, pages int) []place {
	var all []place
	for page := range pages {
		k, node := d.Where(page)
		all = append(all, place{k, node})
	}
	return all
}

// wantPlaces wants the pages of a directory at these places, and no other page.
func wantPlaces(t *testing.T, d *Directory, wanted ...place) {
	t.Helper()
	if got := places(d, len(wanted)); !slices.Equal(got, wanted) {
		t.Errorf("the pages are at %v, not %v", got, wanted)
	}
	if k, node := d.Where(len(wanted)); k != Home || node != 0 {
		t.Errorf("Where(%d), which is no page: %d, %d", len(wanted), k, node)
	}
	if errno := d.Heal(len(wanted)); errno != arg {
		t.Errorf("Heal(%d), which is no page: %d", len(wanted), errno)
	}
}

// wantLists holds what Of tells against what Where tells, and wants each page
// with one node at most.
func wantLists(t *testing.T, d *Directory, pages int) {
	t.Helper()
	with := make([]int, pages)
	for _, node := range nodes {
		for _, k := range kinds {
			var wanted []int
			for page, p := range places(d, pages) {
				if k != Home && p == (place{k, node}) {
					wanted = append(wanted, page)
				}
			}
			got := d.Of(node, k)
			if !slices.Equal(got, wanted) {
				t.Errorf("Of(%d, %d): %v, not %v", node, k, got, wanted)
			}
			for _, page := range got {
				with[page]++
			}
		}
	}
	for page, n := range with {
		k, _ := d.Where(page)
		if k == Home && n != 0 || k != Home && n != 1 {
			t.Errorf("the page %d is of the kind %d, and with %d nodes", page, k, n)
		}
	}
}

func wantErrno(t *testing.T, name string, got, wanted api.Errno) {
	t.Helper()
	if got != wanted {
		t.Errorf("%s: %d, not %d", name, got, wanted)
	}
}

func wantAsk(t *testing.T, d *Directory, page, node, number int, errno api.Errno) {
	t.Helper()
	if n, e := d.Ask(page, node); n != number || e != errno {
		t.Errorf("Ask(%d, %d): %d, %d, not %d, %d", page, node, n, e, number, errno)
	}
}

func wantList(t *testing.T, name string, got []int, wanted ...int) {
	t.Helper()
	if !slices.Equal(got, wanted) {
		t.Errorf("%s: %v, not %v", name, got, wanted)
	}
}

// second is a directory told the other way round: what each node holds, what
// is on the way to it, and what was lost with it. A page that is nowhere there
// is at home.
type second struct {
	pages            int
	held, sent, lost [maxNodes][]int
}

func (m *second) put(lists *[maxNodes][]int, node, page int) {
	lists[node] = append(lists[node], page)
	slices.Sort(lists[node])
}

func (m *second) take(lists *[maxNodes][]int, node, page int) bool {
	i := slices.Index(lists[node], page)
	if i < 0 {
		return false
	}
	lists[node] = slices.Delete(lists[node], i, i+1)
	return true
}

func (m *second) where(page int) place {
	for node := range maxNodes {
		if slices.Contains(m.held[node], page) {
			return place{Held, node}
		}
		if slices.Contains(m.sent[node], page) {
			return place{Sent, node}
		}
		if slices.Contains(m.lost[node], page) {
			return place{Lost, node}
		}
	}
	return place{}
}

func (m *second) do(c call) answer {
	isNode := func(node int) bool { return slices.Contains(nodes, node) }
	if c.name == fail {
		if !isNode(c.node) {
			return answer{}
		}
		gone := slices.Concat(m.held[c.node], m.sent[c.node])
		slices.Sort(gone)
		m.held[c.node], m.sent[c.node] = nil, nil
		for _, page := range gone {
			m.put(&m.lost, c.node, page)
		}
		return answer{pages: gone}
	}
	if c.page < 0 || c.page > m.pages-1 || c.name != heal && !isNode(c.node) {
		return answer{errno: arg}
	}
	now := m.where(c.page)
	switch c.name {
	case ask:
		if now.kind == Home {
			m.put(&m.held, c.node, c.page)
			return answer{number: -1}
		}
		if now.kind == Held && now.node == c.node {
			return answer{number: c.node}
		}
		return answer{number: now.node, errno: waits}
	case ship:
		if !isNode(c.other) || c.node == c.other {
			return answer{errno: arg}
		}
		if !m.take(&m.held, c.node, c.page) {
			return answer{errno: wrong}
		}
		m.put(&m.sent, c.other, c.page)
	case land:
		if !m.take(&m.sent, c.node, c.page) {
			return answer{errno: wrong}
		}
		m.put(&m.held, c.node, c.page)
	case leave:
		if !m.take(&m.held, c.node, c.page) {
			return answer{errno: wrong}
		}
	case heal:
		if now.kind != Lost {
			return answer{errno: wrong}
		}
		m.take(&m.lost, now.node, c.page)
	}
	return answer{}
}

func (m *second) places() []place {
	var all []place
	for page := range m.pages {
		all = append(all, m.where(page))
	}
	return all
}

func secondAt(places ...place) *second {
	m := &second{pages: len(places)}
	for page, p := range places {
		switch p.kind {
		case Held:
			m.put(&m.held, p.node, page)
		case Sent:
			m.put(&m.sent, p.node, page)
		case Lost:
			m.put(&m.lost, p.node, page)
		}
	}
	return m
}

// calls are all calls with these pages and nodes.
func calls(pages, nodes []int) []call {
	var all []call
	for _, node := range nodes {
		all = append(all, call{name: fail, node: node})
	}
	for _, page := range pages {
		all = append(all, call{name: heal, page: page})
		for _, node := range nodes {
			for _, name := range []string{ask, land, leave} {
				all = append(all, call{name: name, page: page, node: node})
			}
			for _, other := range nodes {
				all = append(all, call{ship, page, node, other})
			}
		}
	}
	return all
}

// The chapter's examples.

func TestExamples(t *testing.T) {
	d := New(4)
	wantAsk(t, d, 3, 1, -1, ok)
	wantAsk(t, d, 3, 2, 1, waits)
	wantErrno(t, "Ship(3, 1, 2)", d.Ship(3, 1, 2), ok)
	wantAsk(t, d, 3, 1, 2, waits)
	wantList(t, "Fail(2)", d.Fail(2), 3)
	wantPlaces(t, d, place{}, place{}, place{}, place{Lost, 2})
	wantErrno(t, "Heal(3)", d.Heal(3), ok)
	wantPlaces(t, d, make([]place, 4)...)
}

func TestKinds(t *testing.T) {
	for i, k := range []Kind{Home, Held, Sent, Lost} {
		if int(k) != i {
			t.Errorf("the kind %d is %d", i, k)
		}
	}
}

// P14.1: New and Where.

func TestNew(t *testing.T) {
	tests := []struct{ asked, pages int }{
		{math.MinInt, 1}, {math.MinInt32, 1}, {-1 << 32, 1}, {-32, 1}, {-1, 1}, {0, 1},
		{1, 1}, {2, 2}, {3, 3}, {31, 31}, {32, 32},
		{33, 32}, {64, 32}, {1 << 8, 32}, {1<<32 + 1, 32}, {math.MaxInt32, 32}, {math.MaxInt, 32},
	}
	for _, test := range tests {
		d := New(test.asked)
		wantPlaces(t, d, make([]place, test.pages)...)
		wantLists(t, d, test.pages)
		for page := range test.pages {
			wantErrno(t, fmt.Sprintf("Heal(%d)", page), d.Heal(page), wrong)
			wantAsk(t, d, page, page%maxNodes, -1, ok)
		}
		for page := range test.pages {
			wantAsk(t, d, page, page%maxNodes, page%maxNodes, ok)
		}
		wantAsk(t, d, -1, 0, 0, arg)
		wantAsk(t, d, test.pages, 0, 0, arg)
	}
}

func TestAllNumbersOfPages(t *testing.T) {
	for pages := 1; pages <= maxPages; pages++ {
		d := New(pages)
		wantAsk(t, d, pages, 7, 0, arg)
		wantAsk(t, d, pages-1, 7, -1, ok)
		wantList(t, fmt.Sprintf("Of(7, Held) of %d pages", pages), d.Of(7, Held), pages-1)
		wantPlaces(t, d, append(make([]place, pages-1), place{Held, 7})...)
	}
}

func TestWhere(t *testing.T) {
	for _, p := range allPlaces() {
		for page := range 3 {
			all := make([]place, 3)
			all[page] = p
			d := at(t, all...)
			for range 2 {
				for other := range 3 {
					if k, node := d.Where(other); k != all[other].kind || node != all[other].node {
						t.Errorf("Where(%d): %d, %d, not %v", other, k, node, all[other])
					}
				}
			}
		}
	}
}

func TestWhereOfNoPage(t *testing.T) {
	d := New(maxPages)
	for page := range maxPages {
		d.Ask(page, 7)
	}
	for _, page := range farOff {
		if k, node := d.Where(page); k != Home || node != 0 {
			t.Errorf("Where(%d): %d, %d", page, k, node)
		}
	}
	few := at(t, place{Held, 3}, place{Lost, 4}, place{Sent, 5})
	for _, page := range append([]int{3, 4, 31}, farOff...) {
		if k, node := few.Where(page); k != Home || node != 0 {
			t.Errorf("Where(%d): %d, %d", page, k, node)
		}
	}
}

// P14.1: what is no page or no node is ErrArg, ahead of each other error, and
// changes nothing.

func TestArguments(t *testing.T) {
	for _, p := range allPlaces() {
		d := at(t, place{Held, 0}, p, place{Sent, 1})
		pages := append([]int{0, 1, 2, 3, 31}, farOff...)
		for _, c := range calls(pages, append(slices.Clone(noNodes), 0, 1, 7)) {
			isPage := c.page >= 0 && c.page < 3
			isWrong := !isPage || c.name != heal && slices.Contains(noNodes, c.node) || c.name == ship && slices.Contains(noNodes, c.other)
			if c.name == fail || !isWrong {
				continue
			}
			if got := do(d, c); !got.same(answer{errno: arg}) {
				t.Errorf("%v with %v: %v", c, p, got)
			}
		}
		wantPlaces(t, d, place{Held, 0}, p, place{Sent, 1})
	}
}

func TestArgumentsAtTheEdges(t *testing.T) {
	for _, pages := range []int{1, 2, 31, 32} {
		for _, page := range []int{0, pages - 1} {
			for _, node := range []int{0, maxNodes - 1} {
				other := maxNodes - 1 - node
				d := New(pages)
				wantAsk(t, d, page, node, -1, ok)
				wantErrno(t, "Ship", d.Ship(page, node, other), ok)
				wantErrno(t, "Land", d.Land(page, other), ok)
				wantAsk(t, d, page, other, other, ok)
				wantErrno(t, "Leave", d.Leave(page, other), ok)
				wantAsk(t, d, page, node, -1, ok)
				wantList(t, "Fail", d.Fail(node), page)
				wantAsk(t, d, page, node, node, waits)
				wantErrno(t, "Heal", d.Heal(page), ok)
				wantPlaces(t, d, make([]place, pages)...)
			}
		}
	}
}

// P14.2: Ask.

func TestAsk(t *testing.T) {
	for _, p := range allPlaces() {
		for _, node := range nodes {
			d := at(t, place{Held, 2}, p, place{})
			number, errno, behind := p.node, waits, p
			switch p {
			case place{}:
				number, errno, behind = -1, ok, place{Held, node}
			case place{Held, node}:
				number, errno = node, ok
			}
			wantAsk(t, d, 1, node, number, errno)
			wantPlaces(t, d, place{Held, 2}, behind, place{})
		}
	}
}

// Even who sent it, to whom it was sent and with whom it was lost has to wait.
func TestAskByWhoIsNear(t *testing.T) {
	d := New(1)
	wantAsk(t, d, 0, 3, -1, ok)
	wantErrno(t, "Ship", d.Ship(0, 3, 5), ok)
	wantAsk(t, d, 0, 3, 5, waits)
	wantAsk(t, d, 0, 5, 5, waits)
	wantAsk(t, d, 0, 0, 5, waits)
	wantList(t, "Fail", d.Fail(5), 0)
	wantAsk(t, d, 0, 3, 5, waits)
	wantAsk(t, d, 0, 5, 5, waits)
	wantAsk(t, d, 0, 0, 5, waits)
	wantErrno(t, "Heal", d.Heal(0), ok)
	wantAsk(t, d, 0, 0, -1, ok)
}

// P14.3: Ship, Land, Leave and Heal, each at a page at each place.

func TestShip(t *testing.T) {
	for _, p := range allPlaces() {
		for _, from := range nodes {
			for _, to := range nodes {
				d := at(t, place{Held, from}, p, place{Held, from})
				wanted, behind := ok, place{Sent, to}
				if p != (place{Held, from}) {
					wanted, behind = wrong, p
				}
				if from == to {
					wanted, behind = arg, p
				}
				wantErrno(t, fmt.Sprintf("Ship(1, %d, %d) with %v", from, to, p), d.Ship(1, from, to), wanted)
				wantPlaces(t, d, place{Held, from}, behind, place{Held, from})
			}
		}
	}
}

func TestLand(t *testing.T) {
	for _, p := range allPlaces() {
		for _, node := range nodes {
			d := at(t, place{Sent, node}, p, place{Sent, node})
			wanted, behind := wrong, p
			if p == (place{Sent, node}) {
				wanted, behind = ok, place{Held, node}
			}
			wantErrno(t, fmt.Sprintf("Land(1, %d) with %v", node, p), d.Land(1, node), wanted)
			wantPlaces(t, d, place{Sent, node}, behind, place{Sent, node})
		}
	}
}

func TestLeave(t *testing.T) {
	for _, p := range allPlaces() {
		for _, node := range nodes {
			d := at(t, place{Held, node}, p, place{Held, node})
			wanted, behind := wrong, p
			if p == (place{Held, node}) {
				wanted, behind = ok, place{}
			}
			wantErrno(t, fmt.Sprintf("Leave(1, %d) with %v", node, p), d.Leave(1, node), wanted)
			wantPlaces(t, d, place{Held, node}, behind, place{Held, node})
		}
	}
}

func TestHeal(t *testing.T) {
	for _, p := range allPlaces() {
		d := at(t, place{Lost, 4}, p, place{Lost, 4})
		wanted, behind := wrong, p
		if p.kind == Lost {
			wanted, behind = ok, place{}
		}
		wantErrno(t, fmt.Sprintf("Heal(1) with %v", p), d.Heal(1), wanted)
		wantPlaces(t, d, place{Lost, 4}, behind, place{Lost, 4})
		wantErrno(t, "Heal(1) again", d.Heal(1), wrong)
		wantPlaces(t, d, place{Lost, 4}, behind, place{Lost, 4})
	}
}

// P14.4: Fail.

func TestFail(t *testing.T) {
	for _, node := range nodes {
		one, two := (node+1)%maxNodes, (node+5)%maxNodes
		d := New(10)
		wantAsk(t, d, 9, node, -1, ok)
		wantList(t, "Fail of who has the page 9", d.Fail(node), 9)
		wantAsk(t, d, 8, two, -1, ok)
		wantList(t, "Fail of who has the page 8", d.Fail(two), 8)
		// Held, on the way to it, sent away by it, landed there, and with others.
		wantAsk(t, d, 6, node, -1, ok)
		wantAsk(t, d, 5, one, -1, ok)
		wantErrno(t, "Ship", d.Ship(5, one, node), ok)
		wantAsk(t, d, 4, node, -1, ok)
		wantErrno(t, "Ship", d.Ship(4, node, one), ok)
		wantAsk(t, d, 3, one, -1, ok)
		wantErrno(t, "Ship", d.Ship(3, one, node), ok)
		wantErrno(t, "Land", d.Land(3, node), ok)
		wantAsk(t, d, 2, one, -1, ok)
		wantAsk(t, d, 1, two, -1, ok)
		wantErrno(t, "Ship", d.Ship(1, two, one), ok)
		wantAsk(t, d, 0, node, -1, ok)

		wantList(t, "Fail", d.Fail(node), 0, 3, 5, 6)
		behind := []place{
			{Lost, node}, {Sent, one}, {Held, one}, {Lost, node}, {Sent, one},
			{Lost, node}, {Lost, node}, {Home, 0}, {Lost, two}, {Lost, node},
		}
		wantPlaces(t, d, behind...)
		wantLists(t, d, 10)
		wantList(t, "Fail again", d.Fail(node))
		wantPlaces(t, d, behind...)
		wantErrno(t, "Land of what it had sent away", d.Land(4, one), ok)
		wantErrno(t, "Land of what it was sent", d.Land(5, node), wrong)
		wantErrno(t, "Leave of what it had", d.Leave(6, node), wrong)
	}
}

func TestFailOfAllPages(t *testing.T) {
	d := New(maxPages)
	var all []int
	for page := maxPages - 1; page >= 0; page-- {
		wantAsk(t, d, page, 0, -1, ok)
		if page%2 == 1 {
			wantErrno(t, "Ship", d.Ship(page, 0, 7), ok)
			wantErrno(t, "Land", d.Land(page, 7), ok)
			wantErrno(t, "Ship back", d.Ship(page, 7, 0), ok)
		}
	}
	for page := range maxPages {
		all = append(all, page)
	}
	wantList(t, "Fail(7)", d.Fail(7))
	wantList(t, "Fail(0)", d.Fail(0), all...)
	wantList(t, "Of(0, Lost)", d.Of(0, Lost), all...)
}

func TestFailWithoutPages(t *testing.T) {
	d := New(4)
	for _, node := range nodes {
		wantList(t, fmt.Sprintf("Fail(%d)", node), d.Fail(node))
	}
	wantPlaces(t, d, make([]place, 4)...)
}

func TestFailOfNoNode(t *testing.T) {
	before := append(allPlaces(), place{Home, 0})
	d := at(t, before...)
	for _, node := range noNodes {
		wantList(t, fmt.Sprintf("Fail(%d)", node), d.Fail(node))
	}
	wantPlaces(t, d, before...)
}

// P14.4: Of.

func TestOf(t *testing.T) {
	all := allPlaces()
	// So that each node has several pages of some kinds, and none of others.
	for shift := range len(all) {
		var wanted []place
		for page := range maxPages {
			wanted = append(wanted, all[(page*page+shift)%len(all)])
		}
		d := at(t, wanted...)
		wantLists(t, d, maxPages)
		wantPlaces(t, d, wanted...)
	}
	d := at(t, place{Held, 0}, place{}, place{Sent, 0}, place{Held, 0}, place{Lost, 7}, place{Sent, 7}, place{Held, 0}, place{Lost, 7})
	for range 2 {
		wantList(t, "Of(0, Home)", d.Of(0, Home))
		wantList(t, "Of(0, Held)", d.Of(0, Held), 0, 3, 6)
		wantList(t, "Of(0, Sent)", d.Of(0, Sent), 2)
		wantList(t, "Of(0, Lost)", d.Of(0, Lost))
		wantList(t, "Of(7, Home)", d.Of(7, Home))
		wantList(t, "Of(7, Held)", d.Of(7, Held))
		wantList(t, "Of(7, Sent)", d.Of(7, Sent), 5)
		wantList(t, "Of(7, Lost)", d.Of(7, Lost), 4, 7)
		wantList(t, "Of(1, Held)", d.Of(1, Held))
	}
}

// What was with a node, and is at home again, is none of its pages and none of
// the node 0.
func TestOfWhatCameHome(t *testing.T) {
	for _, node := range nodes {
		d := at(t, place{Held, node}, place{Lost, node})
		wantErrno(t, "Leave", d.Leave(0, node), ok)
		wantErrno(t, "Heal", d.Heal(1), ok)
		for _, other := range nodes {
			for _, k := range kinds {
				wantList(t, fmt.Sprintf("Of(%d, %d)", other, k), d.Of(other, k))
			}
		}
		wantList(t, "Fail(0)", d.Fail(0))
		wantPlaces(t, d, place{}, place{})
	}
}

func TestOfNone(t *testing.T) {
	before := append(allPlaces(), place{}, place{Held, 0}, place{Lost, 1})
	d := at(t, before...)
	for _, node := range noNodes {
		for _, k := range append(slices.Clone(noKinds), kinds...) {
			wantList(t, fmt.Sprintf("Of(%d, %d)", node, k), d.Of(node, k))
		}
	}
	for _, node := range nodes {
		for _, k := range append(slices.Clone(noKinds), Home) {
			wantList(t, fmt.Sprintf("Of(%d, %d)", node, k), d.Of(node, k))
		}
	}
	wantPlaces(t, d, before...)
}

// P14.5: each call on two pages at all places, held against the second
// directory.

func TestEachCallAtEachPlace(t *testing.T) {
	all := calls([]int{-1, 0, 1, 2}, []int{-1, 0, 1, 3, 7, 8})
	for _, a := range allPlaces() {
		for _, b := range allPlaces() {
			for _, c := range all {
				d, m := at(t, a, b), secondAt(a, b)
				got, wanted := do(d, c), m.do(c)
				if !got.same(wanted) {
					t.Errorf("%v with %v, %v: %v, not %v", c, a, b, got, wanted)
				}
				wantPlaces(t, d, m.places()...)
				if wanted.errno != ok && !slices.Equal(places(d, 2), []place{a, b}) {
					t.Errorf("%v with %v, %v: an error, and a change", c, a, b)
				}
			}
		}
	}
}

// P14.5: long scripts.

// anyCall is a call that mostly has right arguments, and often the node that
// the page is with.
func anyCall(r *rand.Rand, m *second) call {
	names := []string{ask, ask, ask, ship, ship, ship, land, land, land, leave, heal, heal}
	c := call{name: names[r.Intn(len(names))], page: r.Intn(m.pages), node: r.Intn(maxNodes), other: r.Intn(maxNodes)}
	if r.Intn(20) == 0 {
		c.name = fail
	}
	if r.Intn(3) > 0 {
		c.node = m.where(c.page).node
	}
	switch r.Intn(40) {
	case 0:
		c.page = farOff[r.Intn(len(farOff))]
	case 1:
		c.node = noNodes[r.Intn(len(noNodes))]
	case 2:
		c.other = noNodes[r.Intn(len(noNodes))]
	case 3:
		c.page = m.pages
	}
	return c
}

func TestLongScripts(t *testing.T) {
	for seed := range 40 {
		r := rand.New(rand.NewSource(int64(seed)))
		pages := 1 + r.Intn(maxPages)
		d, twin, m := New(pages), New(pages), &second{pages: pages}
		seen := map[string]int{}
		for step := range 1500 {
			c := anyCall(r, m)
			got, again, wanted := do(d, c), do(twin, c), m.do(c)
			if !got.same(wanted) || !again.same(wanted) {
				t.Fatalf("seed %d, step %d, %v: %v and %v, not %v", seed, step, c, got, again, wanted)
			}
			wantPlaces(t, d, m.places()...)
			wantLists(t, d, pages)
			if t.Failed() {
				t.Fatalf("seed %d, step %d, %v", seed, step, c)
			}
			seen[fmt.Sprint(c.name, wanted.errno)]++
		}
		for _, name := range []string{ship, land, leave, heal} {
			for _, errno := range []api.Errno{ok, arg, wrong} {
				if pages > 4 && seen[fmt.Sprint(name, errno)] == 0 {
					t.Errorf("seed %d: no %s answered %d", seed, name, errno)
				}
			}
		}
	}
}

// P14.5: a nil directory, and the zero one, have no pages.

func TestNoDirectory(t *testing.T) {
	for name, d := range map[string]*Directory{"nil": nil, "zero": {}} {
		pages := append([]int{0, 1, 31}, farOff...)
		some := append(slices.Clone(noNodes), nodes...)
		for range 2 {
			for _, c := range calls(pages, some) {
				wanted := answer{errno: arg}
				if c.name == fail {
					wanted = answer{}
				}
				if got := do(d, c); !got.same(wanted) {
					t.Errorf("%s: %v: %v, not %v", name, c, got, wanted)
				}
			}
			for _, page := range pages {
				if k, node := d.Where(page); k != Home || node != 0 {
					t.Errorf("%s: Where(%d): %d, %d", name, page, k, node)
				}
			}
			for _, node := range some {
				for _, k := range append(slices.Clone(noKinds), kinds...) {
					wantList(t, name, d.Of(node, k))
				}
			}
		}
	}
}

// R3: lists that come out are memory of their own.

// spoil changes all of a list, and what lies behind its length.
func spoil(list []int) {
	for i := range list[:cap(list)] {
		list[:cap(list)][i] = -77
	}
}

func TestListsAreNew(t *testing.T) {
	before := []place{{Held, 2}, {Sent, 2}, {Lost, 2}, {Held, 2}, {Lost, 2}, {Held, 3}}
	d := at(t, before...)
	for _, k := range kinds {
		first, again := d.Of(2, k), d.Of(2, k)
		kept := slices.Clone(again)
		spoil(first)
		wantList(t, "what came out later", again, kept...)
		wantList(t, "what comes out now", d.Of(2, k), kept...)
		wantPlaces(t, d, before...)
	}
	gone := d.Fail(2)
	wantList(t, "Fail(2)", gone, 0, 1, 3)
	lost := d.Of(2, Lost)
	spoil(gone)
	wantList(t, "Of(2, Lost)", lost, 0, 1, 2, 3, 4)
	spoil(lost)
	wantList(t, "Of(2, Lost) again", d.Of(2, Lost), 0, 1, 2, 3, 4)
	other := d.Fail(3)
	wantList(t, "Fail(3)", other, 5)
	wantPlaces(t, d, place{Lost, 2}, place{Lost, 2}, place{Lost, 2}, place{Lost, 2}, place{Lost, 2}, place{Lost, 3})
}

// R6: directories know nothing of each other.

func TestDirectoriesStandAlone(t *testing.T) {
	a, b := New(3), New(3)
	wantAsk(t, a, 1, 4, -1, ok)
	wantPlaces(t, b, place{}, place{}, place{})
	wantAsk(t, b, 1, 5, -1, ok)
	wantList(t, "Fail(4) of the other one", b.Fail(4))
	wantPlaces(t, a, place{}, place{Held, 4}, place{})
	wantList(t, "Fail(5)", b.Fail(5), 1)
	wantPlaces(t, a, place{}, place{Held, 4}, place{})
	wantPlaces(t, New(3), place{}, place{}, place{})
}
