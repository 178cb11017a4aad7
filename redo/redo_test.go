package redo

import (
	"fmt"
	"math"
	"math/rand"
	"slices"
	"strings"
	"testing"

	"quayside/api"
	"quayside/change"
	"quayside/record"
)

const (
	ok   = api.OK
	arg  = api.ErrArg
	form = api.ErrForm

	top = math.MaxUint64
)

func insert(page, slot int, value string) api.Change {
	return api.Change{Kind: api.Insert, Page: page, Slot: slot, New: value}
}

func update(page, slot int, old, value string) api.Change {
	return api.Change{Kind: api.Update, Page: page, Slot: slot, Old: old, New: value}
}

func remove(page, slot int, old string) api.Change {
	return api.Change{Kind: api.Delete, Page: page, Slot: slot, Old: old}
}

// put is an RUpdate, back an RClr.
func put(lsn uint64, c api.Change) api.Record {
	return api.Record{Kind: api.RUpdate, LSN: lsn, Txn: 1, Change: c}
}

func back(lsn uint64, c api.Change) api.Record {
	return api.Record{Kind: api.RClr, LSN: lsn, Txn: 2, Prev: lsn - 1, Change: c}
}

func plain(kind int, lsn uint64) api.Record {
	r := api.Record{Kind: kind, LSN: lsn, Txn: 2}
	if kind == api.RSave {
		r.Save = 1
	}
	return r
}

func commit(lsn uint64) api.Record { return plain(api.RCommit, lsn) }

func begin(lsn uint64) api.Record {
	return api.Record{Kind: api.RBegin, LSN: lsn}
}

// check is an RCheck with rows, so its LSN is at least 2.
func check(lsn uint64) api.Record {
	return api.Record{
		Kind: api.RCheck, LSN: lsn, Begin: 1,
		Txns:  []api.TxnRow{{Txn: 1, State: api.Running, First: 1, Last: 1, Next: 1}, {Txn: 2, State: api.Committed, First: 1, Last: 1}},
		Dirty: []api.DirtyRow{{Page: 1, Rec: 1}, {Page: 4, Rec: 1}},
	}
}

// others are records of each kind that makes no change.
func others(lsn uint64) []api.Record {
	return []api.Record{
		commit(lsn), plain(api.RAbort, lsn), plain(api.REnd, lsn), plain(api.RSave, lsn), begin(lsn), check(lsn),
	}
}

func on(node int, r api.Record) api.Stamped { return api.Stamped{Node: node, Record: r} }

func stamps(l ...api.Stamped) []api.Stamped { return l }

// cells is a page with values in its first slots; a slot with no value is unused.
func cells(lsn uint64, values ...string) api.Page {
	p := api.Page{LSN: lsn}
	for slot, v := range values {
		if v != "" {
			p.Cells[slot] = api.Cell{Used: true, Value: v}
		}
	}
	return p
}

func pages(l ...api.Page) []api.Page { return l }

func noPages(n int) []api.Page { return make([]api.Page, n) }

func cloneStamps(l []api.Stamped) []api.Stamped {
	c := slices.Clone(l)
	for i, s := range c {
		c[i].Record.Txns = slices.Clone(s.Record.Txns)
		c[i].Record.Dirty = slices.Clone(s.Record.Dirty)
	}
	return c
}

func sameStamps(a, b []api.Stamped) bool {
	return slices.EqualFunc(a, b, func(x, y api.Stamped) bool {
		return x.Node == y.Node && record.Same(x.Record, y.Record)
	})
}

func wantAll(t *testing.T, p []api.Page, l []api.Stamped, want []api.Page, applied int) {
	t.Helper()
	if got, n, errno := All(p, l); errno != ok || n != applied || !slices.Equal(got, want) {
		t.Errorf("All(%v, %v): %v, %d, %d, not %v, %d", p, l, got, n, errno, want, applied)
	}
}

func refusesAll(t *testing.T, name string, p []api.Page, l []api.Stamped, want api.Errno) {
	t.Helper()
	if got, n, errno := All(p, l); errno != want || n != 0 || len(got) != 0 {
		t.Errorf("All(%v, %v), %s: %v, %d, %d, not %d", p, l, name, got, n, errno, want)
	}
}

func wantPage(t *testing.T, p api.Page, id int, l []api.Stamped, upto uint64, want api.Page) {
	t.Helper()
	if got, errno := Page(p, id, l, upto); errno != ok || got != want {
		t.Errorf("Page(%v, %d, %v, %d): %v, %d, not %v", p, id, l, upto, got, errno, want)
	}
}

func refusesPage(t *testing.T, name string, p api.Page, id int, l []api.Stamped, upto uint64, want api.Errno) {
	t.Helper()
	if got, errno := Page(p, id, l, upto); errno != want || got != (api.Page{}) {
		t.Errorf("Page(%v, %d, %v, %d), %s: %v, %d, not %d", p, id, l, upto, name, got, errno, want)
	}
}

// The chapter's example.

func TestExample(t *testing.T) {
	l := stamps(on(0, put(4, insert(0, 0, "a"))), on(0, put(6, insert(0, 1, "b"))), on(0, put(9, insert(0, 2, "c"))))
	wantAll(t, pages(cells(5)), l, pages(cells(9, "", "b", "c")), 2)
	wantPage(t, cells(5), 0, l, api.MaxLSN, cells(9, "", "b", "c"))
}

// P18.1.

// several is changes of three pages, of four nodes and some transactions, among
// records of each other kind.
func several() []api.Stamped {
	return stamps(
		on(1, put(1, insert(2, 0, "one"))),
		on(0, put(2, insert(0, 7, "two"))),
		on(0, plain(api.RSave, 3)),
		on(1, put(3, insert(2, 1, "three"))),
		on(3, begin(3)),
		on(3, put(4, update(0, 7, "two", "four"))),
		on(3, check(5)),
		on(1, plain(api.RAbort, 6)),
		on(1, back(7, remove(2, 1, "three"))),
		on(0, put(8, update(2, 0, "one", ""))),
		on(2, put(8, insert(1, 3, ""))),
		on(2, commit(9)),
		on(2, plain(api.REnd, 10)),
		on(0, back(12, update(2, 0, "", "one"))),
		on(7, put(12, remove(1, 3, ""))),
		on(7, put(13, insert(1, 3, "thirteen"))),
		on(1, plain(api.REnd, 14)),
	)
}

// ages are what each of the three pages was: at first, and behind each of its
// changes.
func ages() [3][]api.Page {
	return [3][]api.Page{
		{cells(0), cells(2, "", "", "", "", "", "", "", "two"), cells(4, "", "", "", "", "", "", "", "four")},
		{cells(0), at(cells(8), 3, ""), cells(12), cells(13, "", "", "", "thirteen")},
		{cells(0), cells(1, "one"), cells(3, "one", "three"), cells(7, "one"), at(cells(8), 0, ""), cells(12, "one")},
	}
}

// at is a page with a used cell more, the value of which may be empty.
func at(p api.Page, slot int, value string) api.Page {
	p.Cells[slot] = api.Cell{Used: true, Value: value}
	return p
}

func last(l []api.Page) api.Page { return l[len(l)-1] }

// P18.3's last sentence, too: of whatever age each page is.
func TestAllOfSeveral(t *testing.T) {
	a := ages()
	want := pages(last(a[0]), last(a[1]), last(a[2]))
	for i, p := range a[0] {
		for j, q := range a[1] {
			for k, r := range a[2] {
				lacking := len(a[0]) + len(a[1]) + len(a[2]) - 3 - i - j - k
				wantAll(t, pages(p, q, r), several(), want, lacking)
				wantAll(t, pages(p, q, r, cells(99, "x")), several(), append(slices.Clone(want), cells(99, "x")), lacking)
			}
		}
	}
}

func TestAllOfNoRecords(t *testing.T) {
	wantAll(t, nil, nil, nil, 0)
	wantAll(t, noPages(0), stamps(), nil, 0)
	a := ages()
	for _, p := range slices.Concat(a[0], a[1], a[2], pages(cells(api.MaxLSN, "x"))) {
		wantAll(t, pages(p), nil, pages(p), 0)
		wantAll(t, pages(cells(3), p), stamps(), pages(cells(3), p), 0)
	}
}

// Records of the other kinds make no change, and are of no page, not of the page 0.
func TestAllOfOtherKinds(t *testing.T) {
	for _, r := range others(5) {
		l := stamps(on(2, r))
		wantAll(t, nil, l, nil, 0)
		wantAll(t, pages(cells(0), cells(3, "a"), cells(9)), l, pages(cells(0), cells(3, "a"), cells(9)), 0)
		l = stamps(on(0, put(4, insert(1, 0, "a"))), on(2, r), on(0, put(6, insert(1, 1, "b"))))
		wantAll(t, noPages(2), l, pages(cells(0), cells(6, "a", "b")), 2)
	}
	var l []api.Stamped
	for i, r := range slices.Concat(others(5), others(6)) {
		r.LSN = uint64(5 + i)
		l = append(l, on(i%api.MaxNodes, r))
	}
	wantAll(t, nil, l, nil, 0)
	wantAll(t, pages(cells(1)), l, pages(cells(1)), 0)
}

func TestAllOfMaxPages(t *testing.T) {
	p := noPages(api.MaxPages)
	wantAll(t, p, nil, p, 0)
	var l []api.Stamped
	var want []api.Page
	for id := range api.MaxPages {
		l = append(l, on(id%api.MaxNodes, put(uint64(id+1), insert(id, id%api.Slots, "x"))))
		want = append(want, at(cells(uint64(id+1)), id%api.Slots, "x"))
	}
	wantAll(t, p, l, want, api.MaxPages)
	for id := range api.MaxPages {
		wantAll(t, want[:id], l[:id], want[:id], 0)
		refusesAll(t, "the page behind", p[:id], l[:id+1], form)
	}
}

func TestAllOfMoreThanMaxPages(t *testing.T) {
	for _, n := range []int{api.MaxPages + 1, api.MaxPages + 2, 64, 256, 1 << 16} {
		refusesAll(t, "too many", noPages(n), nil, arg)
		refusesAll(t, "too many", noPages(n), several(), arg)
	}
	for _, bad := range badRecords() {
		refusesAll(t, "too many, and "+bad.name, noPages(api.MaxPages+1), bad.l, arg)
	}
}

// badPages are such as can't be.
func badPages() []api.Page {
	long := strings.Repeat("x", api.MaxValue+1)
	all := pages(cells(api.MaxLSN+1), cells(top))
	for slot := range api.Slots {
		unused := cells(3)
		unused.Cells[slot].Value = "a"
		all = append(all, at(cells(3), slot, long), unused)
	}
	return all
}

func TestAllOfBadPages(t *testing.T) {
	records := badRecords()[:8]
	for _, bad := range badPages() {
		refusesAll(t, "one alone", pages(bad), nil, arg)
		refusesAll(t, "one alone", pages(bad), stamps(on(0, put(5, insert(0, 0, "a")))), arg)
		for id := range api.MaxPages {
			p := noPages(api.MaxPages)
			p[id] = bad
			refusesAll(t, fmt.Sprintf("at %d", id), p, nil, arg)
			refusesAll(t, fmt.Sprintf("at %d", id), p, several(), arg)
			refusesAll(t, fmt.Sprintf("last, at %d", id), p[:id+1], several(), arg)
			for _, l := range records {
				refusesAll(t, fmt.Sprintf("at %d, and %s", id, l.name), p, l.l, arg)
			}
		}
	}
	refusesAll(t, "all of them", badPages(), several(), arg)
}

// ErrArg goes ahead of each error of the records.
func TestAllOfBadPagesAndRecords(t *testing.T) {
	for _, bad := range badRecords() {
		refusesAll(t, bad.name, pages(cells(3), badPages()[0], cells(0)), bad.l, arg)
	}
	misfit := stamps(on(0, put(5, remove(0, 0, "a"))))
	refusesAll(t, "a change refused", pages(cells(0), badPages()[0]), misfit, arg)
	missing := stamps(on(0, put(5, insert(9, 0, "a"))))
	refusesAll(t, "no such page", pages(cells(0), badPages()[0]), missing, arg)
}

// fault makes a record such that it isn't right.
type fault struct {
	name string
	make func(*api.Record)
}

func faults() []fault {
	return []fault{
		{"no kind", func(r *api.Record) { r.Kind = 0 }},
		{"a kind below", func(r *api.Record) { r.Kind = -1 }},
		{"a kind above", func(r *api.Record) { r.Kind = api.RCheck + 1 }},
		{"a Txn below", func(r *api.Record) { r.Txn = -1 }},
		{"a Txn above", func(r *api.Record) { r.Txn = api.MaxTxn + 1 }},
		{"its own Prev", func(r *api.Record) { r.Prev = r.LSN }},
		{"a Next behind it", func(r *api.Record) { r.Next = top }},
		{"a page below", func(r *api.Record) { r.Change.Page = -1 }},
		{"a page above", func(r *api.Record) { r.Change.Page = api.MaxPages }},
		{"a slot below", func(r *api.Record) { r.Change.Slot = -1 }},
		{"a slot above", func(r *api.Record) { r.Change.Slot = api.Slots }},
		{"no kind of change", func(r *api.Record) { r.Change.Kind = 4 }},
		{"a value too long", func(r *api.Record) { r.Change.New = strings.Repeat("x", api.MaxValue+1) }},
		{"a Save above", func(r *api.Record) { r.Save = api.MaxSaves + 1 }},
		{"its own Begin", func(r *api.Record) { r.Begin = r.LSN }},
		{"rows that don't rise", func(r *api.Record) {
			row := api.TxnRow{Txn: 1, State: api.Running, First: 1, Last: 1}
			r.Txns = []api.TxnRow{row, row}
		}},
		{"a dirty page above", func(r *api.Record) { r.Dirty = []api.DirtyRow{{Page: api.MaxPages, Rec: 1}} }},
	}
}

// badRecord is records with their nodes that aren't right, and why.
type badRecord struct {
	name string
	l    []api.Stamped
}

// badRecords begins with records out of order and nodes that are none. All that
// they change can be changed on three pages that are empty.
func badRecords() []badRecord {
	a, b := insert(0, 0, "a"), insert(0, 1, "b")
	all := []badRecord{
		{"LSNs that fall", stamps(on(0, put(6, a)), on(0, put(5, b)))},
		{"LSNs that fall, of two nodes", stamps(on(0, put(6, a)), on(1, put(5, b)))},
		{"nodes that fall at one LSN", stamps(on(1, put(6, a)), on(0, put(6, b)))},
		{"two alike", stamps(on(1, put(6, a)), on(1, put(6, a)))},
		{"two alike, of other kinds", stamps(on(1, commit(6)), on(1, begin(6)))},
		{"two alike, with another's between", stamps(on(1, put(6, a)), on(2, put(6, b)), on(1, put(6, a)))},
		{"a node of -1", stamps(on(-1, put(6, a)))},
		{"a node of 8", stamps(on(api.MaxNodes, put(6, a)))},
		{"other kinds that fall", stamps(on(0, commit(6)), on(0, begin(5)))},
		{"the lowest node", stamps(on(math.MinInt, commit(6)))},
		{"the highest node", stamps(on(math.MaxInt, commit(6)))},
		{"the node 1<<32", stamps(on(1<<32, commit(6)))},
		{"the node 256", stamps(on(256, begin(6)))},
		{"the LSN 0", stamps(on(0, put(0, a)))},
		{"an LSN above", stamps(on(0, put(api.MaxLSN+1, a)))},
		{"the greatest LSN", stamps(on(0, put(5, a)), on(0, commit(top)))},
		{"nothing", stamps(on(0, api.Record{}))},
	}
	for i := range several() {
		for _, f := range faults() {
			l := several()
			f.make(&l[i].Record)
			all = append(all, badRecord{fmt.Sprintf("%s at %d", f.name, i), l})
		}
		low, high := several(), several()
		low[i].Node, high[i].Node = -1, api.MaxNodes
		all = append(all,
			badRecord{fmt.Sprintf("a node of -1 at %d", i), low},
			badRecord{fmt.Sprintf("a node of 8 at %d", i), high})
	}
	for i := range several()[1:] {
		swapped, twice := several(), several()
		swapped[i], swapped[i+1] = swapped[i+1], swapped[i]
		twice = slices.Insert(twice, i, twice[i])
		all = append(all,
			badRecord{fmt.Sprintf("swapped at %d", i), swapped},
			badRecord{fmt.Sprintf("twice at %d", i), twice})
	}
	return all
}

// Whatever the pages' age: also where no page lacks a thing.
func TestAllOfBadRecords(t *testing.T) {
	for _, bad := range badRecords() {
		for _, p := range [][]api.Page{nil, noPages(1), noPages(3), noPages(api.MaxPages), pages(cells(99), cells(99), cells(99))} {
			refusesAll(t, bad.name, p, bad.l, form)
		}
	}
}

func TestAllOfEachNode(t *testing.T) {
	for node := range api.MaxNodes {
		l := stamps(on(node, put(5, insert(0, 0, "a"))))
		wantAll(t, noPages(1), l, pages(cells(5, "a")), 1)
	}
}

func TestAllOfNoSuchPage(t *testing.T) {
	for n := range api.MaxPages {
		for id := n; id < api.MaxPages; id++ {
			name := fmt.Sprintf("the page %d of %d", id, n)
			first := put(4, insert(0, 0, "a"))
			for _, r := range []api.Record{put(5, insert(id, 0, "a")), back(5, insert(id, 0, "a")), put(5, remove(id, 0, "a"))} {
				refusesAll(t, name, noPages(n), stamps(on(0, r)), form)
				if n > 0 {
					refusesAll(t, name+", behind another", noPages(n), stamps(on(0, first), on(0, r)), form)
					refusesAll(t, name+", ahead of another", noPages(n), stamps(on(0, r), on(1, put(6, insert(0, 0, "a")))), form)
				}
			}
		}
	}
}

// A page that there isn't lacks nothing and has nothing: its change is refused
// though all pages that there are are newer.
func TestAllOfNoSuchPageThoughNothingIsLacking(t *testing.T) {
	newer := pages(cells(api.MaxLSN, "a"), cells(api.MaxLSN, "a"))
	for _, r := range []api.Record{put(1, insert(2, 0, "a")), back(1, insert(2, 0, "a")), put(1, remove(31, 0, "a"))} {
		refusesAll(t, "no such page", newer, stamps(on(0, r)), form)
	}
}

// below, just the page's, just above.
func TestAllOfNumbersRoundThePages(t *testing.T) {
	for _, lsn := range []uint64{2, 3, 100, api.TopLSN, api.MaxLSN - 1} {
		p := cells(lsn, "old")
		wantAll(t, pages(p), stamps(on(0, put(lsn-1, insert(0, 1, "a")))), pages(p), 0)
		wantAll(t, pages(p), stamps(on(0, put(lsn, insert(0, 1, "a")))), pages(p), 0)
		wantAll(t, pages(p), stamps(on(0, put(lsn+1, insert(0, 1, "a")))), pages(cells(lsn+1, "old", "a")), 1)
		wantAll(t, pages(p), stamps(on(0, back(lsn-1, insert(0, 1, "a")))), pages(p), 0)
		wantAll(t, pages(p), stamps(on(0, back(lsn, insert(0, 1, "a")))), pages(p), 0)
		wantAll(t, pages(p), stamps(on(0, back(lsn+1, insert(0, 1, "a")))), pages(cells(lsn+1, "old", "a")), 1)
	}
	wantAll(t, noPages(1), stamps(on(0, put(1, insert(0, 0, "a")))), pages(cells(1, "a")), 1)
	wantAll(t, noPages(1), stamps(on(0, put(api.MaxLSN, insert(0, 0, "a")))), pages(cells(api.MaxLSN, "a")), 1)
	wantAll(t, pages(cells(api.MaxLSN)), stamps(on(0, put(api.MaxLSN, insert(0, 0, "a")))), pages(cells(api.MaxLSN)), 0)
}

// misfits are changes that are refused to a page with the values "a" and
// nothing in its slots 0 and 1, and an empty one in the slot 2.
func misfits(id int) []api.Change {
	return []api.Change{
		insert(id, 0, "a"), insert(id, 0, "b"), insert(id, 2, ""), insert(id, 0, ""),
		remove(id, 1, ""), remove(id, 1, "a"), update(id, 1, "", ""), update(id, 1, "", "a"), update(id, 7, "a", "b"),
		remove(id, 0, "b"), remove(id, 0, ""), update(id, 0, "b", "a"), update(id, 0, "", "a"), update(id, 2, "a", ""), remove(id, 2, "a"),
	}
}

func TestAllOfWhatIsRefused(t *testing.T) {
	p := at(cells(5, "a"), 2, "")
	for _, c := range misfits(1) {
		for _, r := range []api.Record{put(6, c), back(6, c)} {
			name := fmt.Sprint(c)
			refusesAll(t, name, pages(cells(9), p), stamps(on(0, r)), form)
			refusesAll(t, name+" behind others", pages(cells(0), p), stamps(on(0, put(3, insert(0, 0, "a"))), on(3, r)), form)
			refusesAll(t, name+" ahead of others", pages(cells(0), p), stamps(on(3, r), on(0, put(7, insert(0, 0, "a")))), form)
			for _, lsn := range []uint64{6, 7, api.MaxLSN} {
				q := p
				q.LSN = lsn
				wantAll(t, pages(cells(9), q), stamps(on(0, r)), pages(cells(9), q), 0)
			}
		}
	}
}

// Refused is what doesn't fit to the page as the changes ahead made it.
func TestAllOfWhatIsRefusedBehindAnother(t *testing.T) {
	a, b := on(0, put(3, insert(0, 0, "a"))), on(0, put(4, insert(0, 0, "b")))
	refusesAll(t, "two Inserts", noPages(1), stamps(a, b), form)
	wantAll(t, pages(cells(3, "x")), stamps(a, on(0, put(4, update(0, 0, "x", "b")))), pages(cells(4, "b")), 1)
	refusesAll(t, "an Update of what was not", pages(cells(2)), stamps(a, on(0, put(4, update(0, 0, "x", "b")))), form)
	wantAll(t, pages(cells(4)), stamps(a, b), pages(cells(4)), 0)
	wantAll(t, noPages(1), stamps(a, on(0, back(4, remove(0, 0, "a"))), on(1, put(5, insert(0, 0, "b")))), pages(cells(5, "b")), 3)
}

// Of two changes with one LSN a page has got both with the first.
func TestAllOfOneNumber(t *testing.T) {
	x, y := put(5, insert(0, 0, "x")), put(5, insert(0, 1, "y"))
	wantAll(t, noPages(1), stamps(on(0, x), on(1, y)), pages(cells(5, "x")), 1)
	wantAll(t, noPages(1), stamps(on(3, y), on(6, x)), pages(cells(5, "", "y")), 1)
	z := put(5, insert(1, 0, "z"))
	wantAll(t, noPages(2), stamps(on(0, x), on(1, z)), pages(cells(5, "x"), cells(5, "z")), 2)
	wantAll(t, noPages(2), stamps(on(0, x), on(1, y), on(2, z)), pages(cells(5, "x"), cells(5, "z")), 2)
}

// P18.2.

func TestPageOfSeveral(t *testing.T) {
	for id, l := range ages() {
		for i, p := range l {
			wantPage(t, p, id, several(), api.MaxLSN, last(l))
			for upto := range uint64(20) {
				want := p
				for _, q := range l[i:] {
					if q.LSN <= upto {
						want = q
					}
				}
				wantPage(t, p, id, several(), upto, want)
			}
		}
	}
	for id := 3; id < api.MaxPages; id++ {
		wantPage(t, cells(2, "x"), id, several(), api.MaxLSN, cells(2, "x"))
	}
}

func TestPageOfBadPages(t *testing.T) {
	records := badRecords()[:8]
	for _, bad := range badPages() {
		for id := -1; id <= api.MaxPages; id++ {
			refusesPage(t, "no records", bad, id, nil, 0, arg)
			refusesPage(t, "several", bad, id, several(), api.MaxLSN, arg)
			for _, l := range records {
				refusesPage(t, l.name, bad, id, l.l, top, arg)
			}
		}
	}
}

func TestPageOfEachID(t *testing.T) {
	for id := range api.MaxPages {
		l := stamps(on(0, put(5, insert(id, 0, "a"))))
		wantPage(t, cells(0), id, l, api.MaxLSN, cells(5, "a"))
		wantPage(t, cells(0), (id+1)%api.MaxPages, l, api.MaxLSN, cells(0))
	}
	for _, id := range []int{-1, api.MaxPages, -2, api.MaxPages + 1, 64, 256, 1 << 32, math.MinInt, math.MaxInt} {
		refusesPage(t, "no records", cells(0), id, nil, api.MaxLSN, arg)
		refusesPage(t, "no records", cells(0), id, stamps(), 0, arg)
		refusesPage(t, "several", cells(3, "x"), id, several(), api.MaxLSN, arg)
		refusesPage(t, "a change of it", cells(0), id, stamps(on(0, put(5, insert(id, 0, "a")))), api.MaxLSN, arg)
		for _, bad := range badRecords() {
			refusesPage(t, bad.name, cells(0), id, bad.l, api.MaxLSN, arg)
		}
	}
}

// Whichever page, and whatever upto: also where none of its changes is wanted.
func TestPageOfBadRecords(t *testing.T) {
	for _, bad := range badRecords() {
		for _, id := range []int{0, 1, 2, 9, api.MaxPages - 1} {
			for _, upto := range []uint64{0, 1, 5, 6, api.MaxLSN, top} {
				refusesPage(t, bad.name, cells(0), id, bad.l, upto, form)
				refusesPage(t, bad.name, cells(99), id, bad.l, upto, form)
			}
		}
	}
}

func TestPageOfNoRecords(t *testing.T) {
	for id, l := range ages() {
		for _, p := range l {
			for _, upto := range []uint64{0, 1, p.LSN, api.MaxLSN, top} {
				wantPage(t, p, id, nil, upto, p)
				wantPage(t, p, id, stamps(), upto, p)
			}
		}
	}
}

func TestPageOfOtherKinds(t *testing.T) {
	for _, r := range others(5) {
		for _, id := range []int{0, 1, 4, api.MaxPages - 1} {
			wantPage(t, cells(3, "a"), id, stamps(on(2, r)), api.MaxLSN, cells(3, "a"))
		}
		l := stamps(on(0, put(4, insert(1, 0, "a"))), on(2, r), on(0, back(6, insert(1, 1, "b"))))
		wantPage(t, cells(0), 1, l, api.MaxLSN, cells(6, "a", "b"))
		wantPage(t, cells(0), 1, l, 5, cells(4, "a"))
	}
}

// upto may be anything, numbers that no record bears, too.
func TestPageUpTo(t *testing.T) {
	l := stamps(on(0, put(5, insert(0, 0, "a"))), on(1, put(9, insert(0, 1, "b"))), on(0, put(api.MaxLSN, insert(0, 2, "c"))))
	for upto, want := range map[uint64]api.Page{
		0: cells(0), 1: cells(0), 4: cells(0),
		5: cells(5, "a"), 6: cells(5, "a"), 8: cells(5, "a"),
		9: cells(9, "a", "b"), 10: cells(9, "a", "b"), api.TopLSN: cells(9, "a", "b"), api.MaxLSN - 1: cells(9, "a", "b"),
		api.MaxLSN: cells(api.MaxLSN, "a", "b", "c"), api.MaxLSN + 1: cells(api.MaxLSN, "a", "b", "c"), top: cells(api.MaxLSN, "a", "b", "c"),
	} {
		wantPage(t, cells(0), 0, l, upto, want)
	}
	// A page that is newer than upto stays so.
	wantPage(t, cells(7, "x"), 0, l, 3, cells(7, "x"))
	wantPage(t, cells(7, "x"), 0, l, 0, cells(7, "x"))
	wantPage(t, cells(7, "x"), 0, l, 9, cells(9, "x", "b"))
}

func TestPageOfNumbersRoundThePages(t *testing.T) {
	for _, lsn := range []uint64{2, 3, 100, api.TopLSN, api.MaxLSN - 1} {
		p := cells(lsn, "old")
		for _, of := range []func(uint64, api.Change) api.Record{put, back} {
			wantPage(t, p, 3, stamps(on(0, of(lsn-1, insert(3, 1, "a")))), top, p)
			wantPage(t, p, 3, stamps(on(0, of(lsn, insert(3, 1, "a")))), top, p)
			wantPage(t, p, 3, stamps(on(0, of(lsn+1, insert(3, 1, "a")))), top, cells(lsn+1, "old", "a"))
		}
	}
	two := stamps(on(0, put(5, insert(0, 0, "x"))), on(1, put(5, insert(0, 1, "y"))))
	wantPage(t, cells(0), 0, two, 5, cells(5, "x"))
}

func TestPageOfWhatIsRefused(t *testing.T) {
	p := at(cells(5, "a"), 2, "")
	for _, c := range misfits(1) {
		for _, r := range []api.Record{put(6, c), back(6, c)} {
			l := stamps(on(3, r), on(0, put(8, insert(1, 3, "x"))))
			for _, upto := range []uint64{6, 7, 8, api.MaxLSN, top} {
				refusesPage(t, fmt.Sprint(c), p, 1, l, upto, form)
			}
			for _, upto := range []uint64{0, 4, 5} {
				wantPage(t, p, 1, l, upto, p)
			}
			// Not lacking.
			q := p
			q.LSN = 6
			want := at(q, 3, "x")
			want.LSN = 8
			wantPage(t, q, 1, l, api.MaxLSN, want)
			// Of another page.
			wantPage(t, p, 2, l, api.MaxLSN, p)
			wantPage(t, p, 0, l, api.MaxLSN, p)
		}
	}
}

// Changes of other pages play no part, though they'd be refused there; a change
// above upto neither.
func TestPagePassesOver(t *testing.T) {
	l := stamps(
		on(0, put(3, remove(2, 0, "nothing"))),
		on(0, put(4, insert(1, 0, "a"))),
		on(0, put(5, insert(2, 0, "x"))),
		on(1, put(5, insert(2, 0, "y"))),
		on(0, back(6, update(1, 0, "a", "b"))),
		on(0, put(7, insert(1, 0, "refused"))),
		on(0, put(8, insert(1, 1, "c"))),
	)
	wantPage(t, cells(0), 1, l, 3, cells(0))
	wantPage(t, cells(0), 1, l, 4, cells(4, "a"))
	wantPage(t, cells(0), 1, l, 5, cells(4, "a"))
	wantPage(t, cells(0), 1, l, 6, cells(6, "b"))
	for _, upto := range []uint64{7, 8, api.MaxLSN} {
		refusesPage(t, "a change refused", cells(0), 1, l, upto, form)
	}
	wantPage(t, cells(7, "b"), 1, l, api.MaxLSN, cells(8, "b", "c"))
	refusesPage(t, "another page's", cells(0), 2, l, 3, form)
	wantPage(t, cells(0), 0, l, api.MaxLSN, cells(0))
}

// By the words.

func fitsByWords(c api.Cell, x api.Change) bool {
	return x.Kind == api.Insert && !c.Used || x.Kind != api.Insert && c.Used && c.Value == x.Old
}

// rightByWords tells whether records of a right form stand in order, and are of
// nodes.
func rightByWords(l []api.Stamped) bool {
	for i, b := range l {
		if b.Node < 0 || b.Node > 7 || b.Record.LSN == 0 {
			return false
		}
		for _, a := range l[:i] {
			if a.Record.LSN > b.Record.LSN || a.Record.LSN == b.Record.LSN && a.Node >= b.Node {
				return false
			}
		}
	}
	return true
}

// byWords is what is asked of a page, or -1: of all pages; the second result is
// how many changes were applied, -1 where one is refused.
func byWords(p []api.Page, l []api.Stamped, only int, upto uint64) ([]api.Page, int) {
	if !rightByWords(l) {
		return nil, -1
	}
	all, n := slices.Clone(p), 0
	for _, s := range l {
		c := s.Record.Change
		if c.Kind == 0 || s.Record.LSN > upto || only >= 0 && c.Page != only {
			continue
		}
		if c.Page >= len(all) {
			return nil, -1
		}
		was := &all[c.Page]
		if was.LSN >= s.Record.LSN {
			continue
		}
		if !fitsByWords(was.Cells[c.Slot], c) {
			return nil, -1
		}
		was.Cells[c.Slot] = api.Cell{Used: c.Kind != api.Delete, Value: c.New}
		was.LSN = s.Record.LSN
		n++
	}
	return all, n
}

func holdsAll(t *testing.T, p []api.Page, l []api.Stamped) {
	t.Helper()
	want, n := byWords(p, l, -1, top)
	if n < 0 {
		refusesAll(t, "by the words", p, l, form)
		return
	}
	wantAll(t, p, l, want, n)
	wantAll(t, want, l, want, 0)
}

func holdsPage(t *testing.T, p []api.Page, id int, l []api.Stamped, upto uint64) {
	t.Helper()
	want, n := byWords(p, l, id, upto)
	if n < 0 {
		refusesPage(t, "by the words", p[id], id, l, upto, form)
		return
	}
	wantPage(t, p[id], id, l, upto, want[id])
	wantPage(t, want[id], id, l, upto, want[id])
}

// smallRecords are such as change one of two pages, or none.
func smallRecords() []api.Stamped {
	var all []api.Stamped
	for lsn := uint64(1); lsn <= 3; lsn++ {
		for node := range 2 {
			all = append(all,
				on(node, put(lsn, insert(0, 0, "a"))),
				on(node, back(lsn, remove(0, 0, "a"))),
				on(node, put(lsn, insert(1, 0, "a"))),
				on(node, put(lsn, update(1, 0, "a", ""))))
		}
		all = append(all, on(0, begin(lsn)))
	}
	return append(all, on(-1, commit(2)), on(0, put(0, insert(0, 0, "a"))))
}

func smallPages() [][]api.Page {
	all := [][]api.Page{nil}
	for lsn := range uint64(3) {
		for _, p := range pages(cells(lsn), cells(lsn, "a")) {
			all = append(all, pages(p))
			for other := range uint64(3) {
				all = append(all, pages(p, cells(other)), pages(p, cells(other, "a")))
			}
		}
	}
	return all
}

// eachShort does something with each list of up to three of some records.
func eachShort(of []api.Stamped, do func([]api.Stamped)) {
	do(nil)
	for _, a := range of {
		do(stamps(a))
		for _, b := range of {
			do(stamps(a, b))
			if !rightByWords(stamps(a, b)) {
				continue
			}
			for _, c := range of {
				do(stamps(a, b, c))
			}
		}
	}
}

func TestAllShortLists(t *testing.T) {
	all := smallPages()
	eachShort(smallRecords(), func(l []api.Stamped) {
		if !rightByWords(l) {
			holdsAll(t, all[len(l)], l)
			holdsPage(t, all[1], 0, l, 2)
			return
		}
		for _, p := range all {
			holdsAll(t, p, l)
			for id := range p {
				for upto := range uint64(4) {
					holdsPage(t, p, id, l, upto)
				}
			}
		}
	})
}

// story is changes that fit, of all pages, among records of other kinds, and
// what each page was behind each record.
type story struct {
	l      []api.Stamped
	states [][]api.Page
}

func newStory(rnd *rand.Rand, n, length int) story {
	p := noPages(n)
	s := story{states: [][]api.Page{slices.Clone(p)}}
	lsn := uint64(1)
	for range length {
		lsn += uint64(1 + rnd.Intn(3))
		r := others(lsn)[rnd.Intn(6)]
		if n > 0 && rnd.Intn(5) > 0 {
			r = fitting(rnd, p, lsn)
		}
		s.l = append(s.l, on(rnd.Intn(api.MaxNodes), r))
		s.states = append(s.states, slices.Clone(p))
	}
	return s
}

// fitting is a record of a change that fits to the pages; it is made there.
func fitting(rnd *rand.Rand, p []api.Page, lsn uint64) api.Record {
	id, slot := rnd.Intn(len(p)), rnd.Intn(3)
	to := api.Cell{Used: true, Value: []string{"", "a", "b", "c"}[rnd.Intn(4)]}
	if p[id].Cells[slot].Used && rnd.Intn(3) == 0 {
		to = api.Cell{}
	}
	c, _ := change.Of(id, slot, p[id].Cells[slot], to)
	p[id].Cells[slot], p[id].LSN = to, lsn
	if rnd.Intn(3) == 0 {
		return back(lsn, c)
	}
	return put(lsn, c)
}

// aged is pages each of which is what it was behind some record.
func (s story) aged(rnd *rand.Rand) []api.Page {
	p := slices.Clone(s.states[0])
	for id := range p {
		p[id] = s.states[rnd.Intn(len(s.states))][id]
	}
	return p
}

// P18.3, its last sentence.
func TestPagesBecomeWhatTheyWereLast(t *testing.T) {
	rnd := rand.New(rand.NewSource(18))
	for range 300 {
		s := newStory(rnd, rnd.Intn(6), rnd.Intn(40))
		end := s.states[len(s.states)-1]
		for range 5 {
			p := s.aged(rnd)
			got, n, errno := All(p, s.l)
			if errno != ok || !slices.Equal(got, end) {
				t.Fatalf("All(%v, %v): %v, %d, not %v", p, s.l, got, errno, end)
			}
			if _, want := byWords(p, s.l, -1, top); n != want {
				t.Fatalf("All(%v, %v): %d changes, not %d", p, s.l, n, want)
			}
			for id := range p {
				wantPage(t, p[id], id, s.l, api.MaxLSN, end[id])
			}
		}
		upTo(t, s, rnd)
	}
}

// upTo tells whether a page that is no newer than some record becomes what it
// was behind that.
func upTo(t *testing.T, s story, rnd *rand.Rand) {
	t.Helper()
	for i := range s.l {
		for id := range s.states[0] {
			p := s.states[rnd.Intn(i+2)][id]
			wantPage(t, p, id, s.l, s.l[i].Record.LSN, s.states[i+1][id])
		}
	}
}

// P18.3, the first sentence.
func TestRedoneOnceMore(t *testing.T) {
	rnd := rand.New(rand.NewSource(19))
	for range 300 {
		s := newStory(rnd, rnd.Intn(6), rnd.Intn(40))
		first, _, errno := All(s.aged(rnd), s.l)
		if errno != ok {
			t.Fatalf("All of %v: %d", s.l, errno)
		}
		wantAll(t, first, s.l, first, 0)
		for id, p := range first {
			wantPage(t, p, id, s.l, api.MaxLSN, p)
		}
		// What stands in a part of the records was made, too.
		from := rnd.Intn(len(s.l) + 1)
		wantAll(t, first, s.l[from:], first, 0)
	}
	wantAll(t, pages(last(ages()[0]), last(ages()[1]), last(ages()[2])), several(), pages(last(ages()[0]), last(ages()[1]), last(ages()[2])), 0)
}

// P18.3, the second sentence: cut at every place. What is refused at once is
// refused in one of the pieces.
func wantPieces(t *testing.T, p []api.Page, l []api.Stamped) {
	t.Helper()
	whole, n, errno := All(p, l)
	for i := range len(l) + 1 {
		one, n1, errno1 := All(p, l[:i])
		if errno1 != ok {
			if errno == ok {
				t.Fatalf("All(%v, %v), cut at %d: %d", p, l, i, errno1)
			}
			continue
		}
		two, n2, errno2 := All(one, l[i:])
		if errno2 != errno || !slices.Equal(two, whole) || errno == ok && n1+n2 != n {
			t.Fatalf("All(%v, %v), cut at %d: %v, %d and %d, %d, not %v, %d, %d", p, l, i, two, n1, n2, errno2, whole, n, errno)
		}
	}
}

func wantPagePieces(t *testing.T, p api.Page, id int, l []api.Stamped, upto uint64) {
	t.Helper()
	whole, errno := Page(p, id, l, upto)
	for i := range len(l) + 1 {
		one, errno1 := Page(p, id, l[:i], upto)
		if errno1 != ok {
			if errno == ok {
				t.Fatalf("Page(%v, %d, %v, %d), cut at %d: %d", p, id, l, upto, i, errno1)
			}
			continue
		}
		if two, errno2 := Page(one, id, l[i:], upto); errno2 != errno || two != whole {
			t.Fatalf("Page(%v, %d, %v, %d), cut at %d: %v, %d, not %v, %d", p, id, l, upto, i, two, errno2, whole, errno)
		}
	}
	// Up to a number, and then up to a greater one.
	for lower := range min(upto, 50) {
		one, errno1 := Page(p, id, l, lower)
		if errno1 != ok {
			if errno == ok {
				t.Fatalf("Page(%v, %d, %v, %d): %d", p, id, l, lower, errno1)
			}
			continue
		}
		if two, errno2 := Page(one, id, l, upto); errno2 != errno || two != whole {
			t.Fatalf("Page(%v, %d, %v, %d), up to %d ahead: %v, %d, not %v, %d", p, id, l, upto, lower, two, errno2, whole, errno)
		}
	}
}

func TestRedoneInPieces(t *testing.T) {
	for _, p := range [][]api.Page{noPages(3), pages(ages()[0][1], ages()[1][2], ages()[2][3]), pages(cells(6), cells(9), cells(11))} {
		wantPieces(t, p, several())
		for id := range p {
			wantPagePieces(t, p[id], id, several(), api.MaxLSN)
		}
	}
	rnd := rand.New(rand.NewSource(20))
	for range 60 {
		s := newStory(rnd, 1+rnd.Intn(4), rnd.Intn(30))
		p := s.aged(rnd)
		wantPieces(t, p, s.l)
		for id := range p {
			wantPagePieces(t, p[id], id, s.l, uint64(rnd.Intn(60)))
		}
	}
}

// Changes that don't fit, and pages whose numbers belong to others: at random,
// against the words, and in pieces.
func TestRandomRecords(t *testing.T) {
	rnd := rand.New(rand.NewSource(21))
	refused := 0
	for range 1500 {
		s := newStory(rnd, 1+rnd.Intn(4), rnd.Intn(8))
		p := s.aged(rnd)
		for id := range p {
			if rnd.Intn(3) == 0 {
				p[id].LSN = uint64(rnd.Intn(12))
			}
		}
		if len(s.l) > 0 && rnd.Intn(2) == 0 {
			s.l = slices.Delete(s.l, 0, 1)
		}
		if rnd.Intn(10) == 0 {
			p = p[:len(p)-1]
		}
		holdsAll(t, p, s.l)
		wantPieces(t, p, s.l)
		for id := range p {
			holdsPage(t, p, id, s.l, uint64(rnd.Intn(20)))
			wantPagePieces(t, p[id], id, s.l, top)
		}
		if _, _, errno := All(p, s.l); errno != ok {
			refused++
		}
	}
	if refused < 100 || refused > 1400 {
		t.Errorf("%d of them were refused", refused)
	}
}

// All is, page by page, what Page is.
func TestAllIsEachPage(t *testing.T) {
	rnd := rand.New(rand.NewSource(22))
	for range 200 {
		s := newStory(rnd, api.MaxPages, rnd.Intn(100))
		p := s.aged(rnd)
		got, _, errno := All(p, s.l)
		if errno != ok {
			t.Fatalf("All of %v: %d", s.l, errno)
		}
		for id := range p {
			wantPage(t, p[id], id, s.l, top, got[id])
		}
	}
}

// R1: many records.
func TestLongList(t *testing.T) {
	const n = 1 << 16
	var l []api.Stamped
	want := noPages(api.MaxPages)
	for i := range n {
		id, slot, lsn := i%api.MaxPages, i/api.MaxPages%api.Slots, uint64(i+1)
		c := insert(id, slot, "a")
		if want[id].Cells[slot].Used {
			c = remove(id, slot, "a")
		}
		want[id].Cells[slot] = api.Cell{Used: c.Kind == api.Insert, Value: c.New}
		want[id].LSN = lsn
		l = append(l, on(i*5%api.MaxNodes, put(lsn, c)))
	}
	got, applied, errno := All(noPages(api.MaxPages), l)
	if errno != ok || applied != n || !slices.Equal(got, want) {
		t.Errorf("All of many: %d applied, %d", applied, errno)
	}
	for id := range want {
		if p, errno := Page(api.Page{}, id, l, top); errno != ok || p != want[id] {
			t.Errorf("Page %d of many: %v, %d", id, p, errno)
		}
	}
}

// R3, R4, R6.

// scene is what is asked.
type scene struct {
	name string
	p    []api.Page
	l    []api.Stamped
}

func scenes() []scene {
	all := []scene{
		{"none", nil, nil},
		{"no records", pages(cells(3, "a"), cells(0)), nil},
		{"several", noPages(3), several()},
		{"several, aged", pages(ages()[0][1], ages()[1][2], ages()[2][3]), several()},
		{"several, newer", pages(cells(50), cells(50), cells(50)), several()},
		{"too few pages", noPages(2), several()},
		{"too many pages", noPages(api.MaxPages + 1), several()},
		{"a bad page", append(noPages(3), badPages()[0]), several()},
		{"a change refused", pages(cells(0), cells(0), cells(0, "a")), several()},
		{"refused behind others", noPages(3), append(several(), on(0, put(20, remove(0, 0, "x"))))},
	}
	for _, bad := range badRecords() {
		all = append(all, scene{bad.name, noPages(3), bad.l})
	}
	return all
}

// told is all that the calls answer, as a text.
func told(p []api.Page, l []api.Stamped) string {
	all, n, errno := All(p, l)
	text := fmt.Sprint(all, n, errno)
	for id := range p {
		for _, upto := range []uint64{0, 8, top} {
			one, errno := Page(p[id], id, l, upto)
			text += fmt.Sprint(one, errno)
		}
	}
	return text
}

func TestArgumentsStay(t *testing.T) {
	for _, s := range scenes() {
		p, l := slices.Clone(s.p), cloneStamps(s.l)
		told(p, l)
		if !slices.Equal(p, s.p) || !sameStamps(l, s.l) {
			t.Errorf("%s: the arguments were changed: %v, %v", s.name, p, l)
		}
	}
}

// What lies behind a list's length stays, and plays no part.
func TestNothingBehindLists(t *testing.T) {
	for _, s := range scenes() {
		room := append(slices.Clone(s.p), cells(77, "behind"), badPages()[3])
		more := append(cloneStamps(s.l), on(5, put(90, insert(0, 5, "behind"))), on(-1, api.Record{}))
		for i := range s.l {
			more[i].Record.Txns = append(slices.Clone(s.l[i].Record.Txns), api.TxnRow{Txn: 9})[:len(s.l[i].Record.Txns)]
			more[i].Record.Dirty = append(slices.Clone(s.l[i].Record.Dirty), api.DirtyRow{Page: 9})[:len(s.l[i].Record.Dirty)]
		}
		p, l := room[:len(s.p)], more[:len(s.l)]
		if got, want := told(p, l), told(s.p, s.l); got != want {
			t.Errorf("%s: what lies behind plays a part: %s, not %s", s.name, got, want)
		}
		if room[len(s.p)] != cells(77, "behind") || room[len(s.p)+1] != badPages()[3] {
			t.Errorf("%s: pages behind were changed: %v", s.name, room[len(s.p):])
		}
		if !sameStamps(more[len(s.l):], stamps(on(5, put(90, insert(0, 5, "behind"))), on(-1, api.Record{}))) {
			t.Errorf("%s: records behind were changed: %v", s.name, more[len(s.l):])
		}
		for i, x := range s.l {
			txns, dirty := more[i].Record.Txns, more[i].Record.Dirty
			if txns[:len(txns)+1][len(x.Record.Txns)] != (api.TxnRow{Txn: 9}) || dirty[:len(dirty)+1][len(x.Record.Dirty)] != (api.DirtyRow{Page: 9}) {
				t.Errorf("%s: rows behind were changed", s.name)
			}
		}
	}
}

// What comes out is memory of its own: changed, also behind its length, it
// changes nothing that went in, nor what is answered next.
func TestAnswersAreNew(t *testing.T) {
	for _, s := range scenes() {
		p, l := slices.Clone(s.p), cloneStamps(s.l)
		before := told(p, l)
		got, _, _ := All(p, l)
		got = got[:cap(got)]
		for i := range got {
			got[i] = cells(66, "changed")
		}
		if !slices.Equal(p, s.p) || !sameStamps(l, s.l) {
			t.Errorf("%s: an answer shares memory with an argument", s.name)
		}
		if after := told(p, l); after != before {
			t.Errorf("%s: %s, then %s", s.name, before, after)
		}
	}
}

// Two answers of one question share nothing either, and an answer stays when
// what went in is changed.
func TestAnswersStay(t *testing.T) {
	p, l := noPages(3), several()
	one, _, _ := All(p, l)
	two, _, _ := All(p, l)
	want := slices.Clone(one)
	for i := range p {
		p[i], two[i] = cells(66, "changed"), cells(67, "changed")
	}
	for i := range l {
		l[i] = on(4, commit(1))
	}
	if !slices.Equal(one, want) {
		t.Errorf("an answer was changed: %v, not %v", one, want)
	}
}

func TestEmptyIsNil(t *testing.T) {
	for _, p := range [][]api.Page{nil, noPages(0), noPages(5)[:0]} {
		for _, l := range [][]api.Stamped{nil, stamps(), several()[:0]} {
			wantAll(t, p, l, nil, 0)
			refusesAll(t, "no such page", p, append(l[:len(l):len(l)], several()...), form)
		}
	}
	r := put(5, insert(0, 0, "a"))
	r.Txns, r.Dirty = []api.TxnRow{}, []api.DirtyRow{}
	wantAll(t, noPages(1), stamps(on(0, r)), pages(cells(5, "a")), 1)
	wantPage(t, cells(0), 0, stamps(on(0, r)), top, cells(5, "a"))
}

func TestSameAnswersAgain(t *testing.T) {
	first := map[string]string{}
	for range 3 {
		for _, s := range scenes() {
			got := told(s.p, s.l)
			if want, asked := first[s.name]; asked && got != want {
				t.Errorf("%s: %s, then %s", s.name, want, got)
			}
			first[s.name] = got
		}
	}
}
