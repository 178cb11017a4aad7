package undo

import (
	"math/rand"
	"slices"
	"testing"

	"quayside/analyse"
	"quayside/api"
	"quayside/change"
	"quayside/merge"
	"quayside/redo"
	"quayside/txn"
)

// P19.4, P19.5: random histories of nodes whose transactions hold the cells that
// they changed till they are over.

// cell is a slot of a page.
type cell struct{ page, slot int }

// The states of a transaction of a history. Cells are held up to forced, or up
// to takenBack: not longer.
const (
	writes = iota
	goesTo
	aborts
	committed
	forced
	takenBack
)

// open is a transaction that isn't over.
type open struct {
	number, node, state int
	saves               []uint64
	upto                uint64
	held                []cell
}

// age is what a page was, and the node that made it so.
type age struct {
	p    api.Page
	node int
}

// made is the cells that a transaction made, and its RCommit.
type made struct {
	node  int
	lsn   uint64
	cells map[cell]api.Cell
}

// history is what nodes did: their logs, and how far these stand fast, all that
// each page was, and what each transaction that committed made of its cells, in
// the order of their commits.
type history struct {
	rnd     *rand.Rand
	logs    [][]api.Record
	fast    []uint64
	clock   []uint64
	last    []int
	table   []analyse.Table
	begin   []uint64
	pages   []api.Page
	ages    [][]age
	holder  map[cell]*open
	open    []*open
	commits []made
}

func newHistory(rnd *rand.Rand) *history {
	nodes, n := 1+rnd.Intn(4), 1+rnd.Intn(4)
	h := &history{rnd: rnd, logs: noLogs(nodes), fast: make([]uint64, nodes), clock: make([]uint64, nodes), last: make([]int, nodes)}
	h.pages, h.ages = noPages(n), make([][]age, n)
	for id := range n {
		h.ages[id] = []age{{}}
	}
	h.forget()
	return h
}

// forget is what a fall makes of all that isn't in logs or pages.
func (h *history) forget() {
	h.open, h.holder = nil, map[cell]*open{}
	h.table, h.begin = make([]analyse.Table, len(h.logs)), make([]uint64, len(h.logs))
}

// log appends a record with a number above all that the node has seen, and above
// floor.
func (h *history) log(node int, r api.Record, floor uint64) uint64 {
	r.LSN = max(h.clock[node], floor) + 1 + uint64(h.rnd.Intn(2))
	r.Prev = txn.Last(h.logs[node], r.Txn)
	h.clock[node] = r.LSN
	h.logs[node] = append(h.logs[node], r)
	return r.LSN
}

// change logs a change, and makes it. A page that another node changed last
// comes from there, and as far as it that one's log is forced.
func (h *history) change(node int, r api.Record) {
	id := r.Change.Page
	was := h.ages[id][len(h.ages[id])-1]
	if was.node != node {
		h.fast[was.node] = max(h.fast[was.node], was.p.LSN)
	}
	lsn := h.log(node, r, h.pages[id].LSN)
	p, errno := change.Apply(h.pages[id], r.Change, lsn)
	if errno != ok {
		panic("a change that doesn't fit")
	}
	h.pages[id] = p
	h.ages[id] = append(h.ages[id], age{p, node})
}

// step is something that a node does.
func (h *history) step() {
	node := h.rnd.Intn(len(h.logs))
	if h.rnd.Intn(12) == 0 {
		h.checkpoint(node)
		return
	}
	var mine []*open
	for _, o := range h.open {
		if o.node == node {
			mine = append(mine, o)
		}
	}
	if len(mine) == 0 || len(mine) < 5 && h.rnd.Intn(8) == 0 {
		h.last[node]++
		h.open = append(h.open, &open{number: h.last[node], node: node})
		return
	}
	h.further(mine[h.rnd.Intn(len(mine))])
}

func (h *history) further(o *open) {
	switch o.state {
	case writes:
		h.anything(o)
	case goesTo, aborts:
		h.backwards(o)
	case committed:
		h.fast[o.node] = max(h.fast[o.node], h.clock[o.node])
		h.free(o, forced)
	case forced, takenBack:
		h.log(o.node, plain(api.REnd, 0, o.number, 0), 0)
		h.open = slices.DeleteFunc(h.open, func(x *open) bool { return x == o })
	}
}

func (h *history) anything(o *open) {
	switch n := h.rnd.Intn(20); {
	case n < 13:
		h.write(o)
	case n < 15:
		o.saves = append(o.saves, h.log(o.node, plain(api.RSave, 0, o.number, 0), 0))
	case n < 17 && len(o.saves) > 0:
		o.state, o.upto = goesTo, o.saves[h.rnd.Intn(len(o.saves))]
	case n < 19:
		h.commit(o)
	default:
		o.state, o.upto = aborts, 0
		h.log(o.node, plain(api.RAbort, 0, o.number, 0), 0)
	}
}

// write changes a cell that no other transaction holds.
func (h *history) write(o *open) {
	c := cell{h.rnd.Intn(len(h.pages)), h.rnd.Intn(3)}
	if who := h.holder[c]; who != nil && who != o {
		return
	}
	was := h.pages[c.page].Cells[c.slot]
	to := api.Cell{Used: true, Value: []string{"", "a", "b", "c"}[h.rnd.Intn(4)]}
	if was.Used && h.rnd.Intn(3) == 0 {
		to = api.Cell{}
	}
	made, errno := change.Of(c.page, c.slot, was, to)
	if errno != ok {
		panic("a change that can't be")
	}
	if h.holder[c] == nil {
		h.holder[c] = o
		o.held = append(o.held, c)
	}
	h.change(o.node, put(0, o.number, 0, made))
}

// backwards takes a change back, or finds that the way back is at its end.
func (h *history) backwards(o *open) {
	plan, errno := txn.Plan(h.logs[o.node], o.number, o.upto)
	switch {
	case errno != ok:
		panic("no plan")
	case len(plan) > 0:
		h.change(o.node, plan[0])
	case o.state == aborts:
		h.free(o, takenBack)
	default:
		o.state = writes
		o.saves = slices.DeleteFunc(o.saves, func(n uint64) bool { return n > o.upto })
	}
}

func (h *history) commit(o *open) {
	m := made{node: o.node, cells: map[cell]api.Cell{}}
	for _, c := range o.held {
		m.cells[c] = h.pages[c.page].Cells[c.slot]
	}
	m.lsn = h.log(o.node, plain(api.RCommit, 0, o.number, 0), 0)
	h.commits = append(h.commits, m)
	o.state = committed
}

func (h *history) free(o *open, state int) {
	for _, c := range o.held {
		delete(h.holder, c)
	}
	o.held, o.state = nil, state
}

// checkpoint begins a checkpoint, or ends the one that was begun.
func (h *history) checkpoint(node int) {
	if h.begin[node] == 0 {
		h.table[node], _ = analyse.Of(h.logs[node])
		h.begin[node] = h.log(node, begin(0), 0)
		return
	}
	h.log(node, analyse.Check(h.table[node], h.begin[node]), 0)
	h.begin[node] = 0
}

// fall makes of the history what is left when the power goes everywhere: logs
// whose last records are gone, as far as they weren't forced, and pages each of
// which is on the store as it was at some time.
func (h *history) fall() {
	var cuts []uint64
	for node, l := range h.logs {
		n := len(l)
		for n > 0 && l[n-1].LSN > h.fast[node] && h.rnd.Intn(4) > 0 {
			n--
		}
		h.logs[node] = slices.Clone(l[:n])
		cut := h.fast[node]
		if n > 0 {
			cut = max(cut, l[n-1].LSN)
		}
		cuts = append(cuts, cut)
	}
	for id, all := range h.ages {
		h.ages[id] = slices.DeleteFunc(all, func(a age) bool { return a.p.LSN > cuts[a.node] })
	}
	h.commits = slices.DeleteFunc(h.commits, func(m made) bool { return m.lsn > cuts[m.node] })
	for id, all := range h.ages {
		h.ages[id] = slices.Clone(all[h.rnd.Intn(len(all)):])
	}
	h.trim()
	h.forget()
}

// trim takes away of the logs what neither a page nor a transaction needs any
// more, or a part of it.
func (h *history) trim() {
	least := api.MaxLSN
	for _, all := range h.ages {
		if len(all) > 1 {
			least = min(least, all[1].p.LSN)
		}
	}
	for node, l := range h.logs {
		n := least
		t, _ := analyse.Of(l)
		for _, r := range t.Txns {
			n = min(n, r.First)
		}
		for len(l) > 0 && l[0].LSN < n && h.rnd.Intn(30) > 0 {
			l = l[1:]
		}
		h.logs[node] = l
	}
}

// redone is pages as they lie on the store, redone from logs.
func redone(t *testing.T, ages [][]age, rnd *rand.Rand, l [][]api.Record) []api.Page {
	t.Helper()
	var p []api.Page
	for _, all := range ages {
		p = append(p, all[rnd.Intn(len(all))].p)
	}
	merged, errno := merge.All(l)
	if errno != ok {
		t.Fatalf("merge.All(%v): %d", l, errno)
	}
	p, _, errno = redo.All(p, merged)
	if errno != ok {
		t.Fatalf("redo.All of %v: %d", l, errno)
	}
	return p
}

// wantCells are what the transactions that committed made, in their order.
func (h *history) wantCells() [][api.Slots]api.Cell {
	want := make([][api.Slots]api.Cell, len(h.pages))
	for _, m := range h.commits {
		for c, x := range m.cells {
			want[c.page][c.slot] = x
		}
	}
	return want
}

func cellsOf(p []api.Page) [][api.Slots]api.Cell {
	var all [][api.Slots]api.Cell
	for _, x := range p {
		all = append(all, x.Cells)
	}
	return all
}

// restart does a restart step by step, on the way of which pages fall back, and
// holds it against All.
func (h *history) restart(t *testing.T, often int) {
	t.Helper()
	w := work(h.logs, redone(t, h.ages, h.rnd, h.logs)...)
	want, steps, errno := All(w)
	if errno != ok {
		t.Fatalf("All(%v): %d", w, errno)
	}
	if got := cellsOf(want.Pages); !slices.Equal(got, h.wantCells()) {
		t.Fatalf("All(%v): %v, not %v", w, got, h.wantCells())
	}
	for n := 0; ; n++ {
		if h.rnd.Intn(often) == 0 {
			w.Pages = redone(t, h.ages, h.rnd, w.Logs)
		}
		wantAll(t, w, want, steps-n)
		s, _, _ := Pick(w.Logs)
		next, some, errno := Step(w)
		if errno != ok {
			t.Fatalf("Step(%v): %d", w, errno)
		}
		if !some {
			break
		}
		w = next
		if s.Record.Kind == api.RClr {
			id := s.Record.Change.Page
			h.ages[id] = append(h.ages[id], age{w.Pages[id], s.Node})
		}
	}
	if !slices.Equal(cellsOf(w.Pages), h.wantCells()) {
		t.Fatalf("Steps to %v, not %v", w, h.wantCells())
	}
	wantOver(t, w)
	h.goOn(w)
}

// wantOver tells whether nothing is to be done any more.
func wantOver(t *testing.T, w api.Work) {
	t.Helper()
	for node, l := range w.Logs {
		if x, errno := analyse.Of(l); errno != ok || len(x.Txns) != 0 {
			t.Fatalf("the log %d of %v: %v, %d", node, w, x, errno)
		}
	}
	wantDone(t, w)
}

// goOn lets the nodes begin anew behind a restart.
func (h *history) goOn(w api.Work) {
	h.logs, h.pages = w.Logs, w.Pages
	most := slices.Max(h.clock)
	for _, l := range h.logs {
		if len(l) > 0 {
			most = max(most, l[len(l)-1].LSN)
		}
	}
	for node := range h.logs {
		h.clock[node], h.fast[node] = most, most
	}
}

func TestRandomHistories(t *testing.T) {
	rnd := rand.New(rand.NewSource(1905))
	for i := range 400 {
		h := newHistory(rnd)
		for range 3 {
			for range rnd.Intn(120) {
				h.step()
			}
			h.fall()
			h.restart(t, 1+i%4)
		}
	}
}

// One history, left at each of its steps, all of which stands fast.
func TestEachMoment(t *testing.T) {
	for length := range 150 {
		h := newHistory(rand.New(rand.NewSource(int64(length % 3))))
		for range length {
			h.step()
		}
		for node := range h.logs {
			h.fast[node] = api.MaxLSN
		}
		h.fall()
		h.restart(t, 2)
	}
}
