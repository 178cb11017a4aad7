package analyse

import (
	"fmt"
	"maps"
	"math"
	"math/rand"
	"slices"
	"testing"

	"quayside/api"
	"quayside/record"
	"quayside/txn"
)

const (
	ok   = api.OK
	arg  = api.ErrArg
	form = api.ErrForm

	top = math.MaxUint64
)

func insert(page, slot int) api.Change {
	return api.Change{Kind: api.Insert, Page: page, Slot: slot, New: "a"}
}

// put is an RUpdate of a page.
func put(lsn uint64, txn int, prev uint64, page int) api.Record {
	return api.Record{Kind: api.RUpdate, LSN: lsn, Txn: txn, Prev: prev, Change: insert(page, 0)}
}

// back is an RClr that changes a page.
func back(lsn uint64, txn int, prev, next uint64, page int) api.Record {
	c := api.Change{Kind: api.Delete, Page: page, Old: "a"}
	return api.Record{Kind: api.RClr, LSN: lsn, Txn: txn, Prev: prev, Next: next, Change: c}
}

func plain(kind int, lsn uint64, txn int, prev uint64) api.Record {
	r := api.Record{Kind: kind, LSN: lsn, Txn: txn, Prev: prev}
	if kind == api.RSave {
		r.Save = 1
	}
	return r
}

func begin(lsn uint64) api.Record {
	return api.Record{Kind: api.RBegin, LSN: lsn}
}

func check(lsn, begin uint64, t Table) api.Record {
	return api.Record{Kind: api.RCheck, LSN: lsn, Begin: begin, Txns: t.Txns, Dirty: t.Dirty}
}

func row(txn, state int, first, last, next uint64) api.TxnRow {
	return api.TxnRow{Txn: txn, State: state, First: first, Last: last, Next: next}
}

func rows(l ...api.TxnRow) []api.TxnRow { return l }

func dirty(page int, rec uint64) api.DirtyRow { return api.DirtyRow{Page: page, Rec: rec} }

func pages(l ...api.DirtyRow) []api.DirtyRow { return l }

// some is a table with rows of each State, among which there is room.
func some() Table {
	return Table{
		rows(row(2, api.Running, 3, 6, 5), row(4, api.Aborting, 1, 9, 0), row(6, api.Committed, 7, 7, 7)),
		pages(dirty(1, 3), dirty(3, 8), dirty(5, 1)),
	}
}

// mixed is a log with all kinds, with records of four transactions among each
// other, and with a checkpoint that is whole.
func mixed() []api.Record {
	return []api.Record{
		put(2, 1, 0, 4),
		put(3, 2, 0, 7),
		plain(api.RSave, 4, 1, 2),
		begin(5),
		put(6, 1, 4, 2),
		put(8, 2, 3, 4),
		check(9, 5, Table{rows(row(1, api.Running, 2, 4, 2), row(2, api.Running, 3, 3, 3)), pages(dirty(4, 2), dirty(7, 3))}),
		back(10, 1, 6, 2, 2),
		put(11, 3, 0, 0),
		plain(api.RAbort, 12, 2, 8),
		put(13, 1, 10, 9),
		back(14, 2, 12, 3, 4),
		plain(api.RCommit, 15, 3, 11),
		plain(api.RSave, 17, 4, 0),
		plain(api.REnd, 20, 3, 15),
	}
}

func cloneTable(t Table) Table {
	return Table{slices.Clone(t.Txns), slices.Clone(t.Dirty)}
}

func clone(l []api.Record) []api.Record {
	c := slices.Clone(l)
	for i, r := range c {
		c[i].Txns, c[i].Dirty = slices.Clone(r.Txns), slices.Clone(r.Dirty)
	}
	return c
}

func same(a, b Table) bool {
	return slices.Equal(a.Txns, b.Txns) && slices.Equal(a.Dirty, b.Dirty)
}

func sameLog(a, b []api.Record) bool {
	return slices.EqualFunc(a, b, record.Same)
}

func empty(t Table) bool { return len(t.Txns) == 0 && len(t.Dirty) == 0 }

func wantOf(t *testing.T, l []api.Record, want Table) {
	t.Helper()
	if got, errno := Of(l); errno != ok || !same(got, want) {
		t.Errorf("Of(%v): %v, %d, not %v", l, got, errno, want)
	}
}

func wantMore(t *testing.T, x Table, l []api.Record, want Table) {
	t.Helper()
	if got, errno := More(x, l); errno != ok || !same(got, want) {
		t.Errorf("More(%v, %v): %v, %d, not %v", x, l, got, errno, want)
	}
}

func refusesOf(t *testing.T, name string, l []api.Record) {
	t.Helper()
	if got, errno := Of(l); errno != form || !empty(got) {
		t.Errorf("Of(%s): %v, %d", name, got, errno)
	}
}

func refusesMore(t *testing.T, name string, x Table, l []api.Record, want api.Errno) {
	t.Helper()
	if got, errno := More(x, l); errno != want || !empty(got) {
		t.Errorf("More, %s: %v, %d, not %d", name, got, errno, want)
	}
}

// The chapter's example.

func example() []api.Record {
	return []api.Record{put(3, 1, 0, 2), plain(api.RCommit, 4, 1, 3), put(5, 2, 0, 2)}
}

func exampleTable() Table {
	return Table{
		rows(row(1, api.Committed, 3, 4, 3), row(2, api.Running, 5, 5, 5)),
		pages(dirty(2, 3)),
	}
}

func TestExample(t *testing.T) {
	wantOf(t, example(), exampleTable())
	got := Losers(exampleTable())
	if !slices.Equal(got, rows(row(2, api.Running, 5, 5, 5))) {
		t.Errorf("Losers: %v", got)
	}
}

// The example in two pieces, cut at each place.
func TestExampleInPieces(t *testing.T) {
	wantMore(t, Table{}, example(), exampleTable())
	for i := range len(example()) + 1 {
		x, errno := Of(example()[:i])
		if errno != ok {
			t.Errorf("Of the first %d: %d", i, errno)
		}
		wantMore(t, x, example()[i:], exampleTable())
		x, errno = More(Table{}, example()[:i])
		if errno != ok {
			t.Errorf("More by the first %d: %d", i, errno)
		}
		wantMore(t, x, example()[i:], exampleTable())
	}
}

func TestMixed(t *testing.T) {
	want := Table{
		rows(row(1, api.Running, 2, 13, 13), row(2, api.Aborting, 3, 14, 3), row(4, api.Running, 17, 17, 0)),
		pages(dirty(0, 11), dirty(2, 6), dirty(4, 2), dirty(7, 3), dirty(9, 13)),
	}
	wantOf(t, mixed(), want)
	wantMore(t, Table{}, mixed(), want)
}

// No records, and the empty table.

func TestNothing(t *testing.T) {
	for _, l := range [][]api.Record{nil, {}} {
		wantOf(t, l, Table{})
		wantMore(t, Table{}, l, Table{})
		wantMore(t, Table{rows(), pages()}, l, Table{})
		for _, c := range tables() {
			wantMore(t, c.t, l, c.t)
		}
	}
}

// named is a table, and what is in it.
type named struct {
	name string
	t    Table
}

// many is rows of a number of transactions, from txn on, step by step.
func many(n, txn, step int) []api.TxnRow {
	var all []api.TxnRow
	for i := range n {
		all = append(all, row(txn+i*step, 1+i%3, 1, uint64(i+1), uint64(i)))
	}
	return all
}

func allPages() []api.DirtyRow {
	var all []api.DirtyRow
	for id := range api.MaxPages {
		all = append(all, dirty(id, uint64(40-id)))
	}
	return all
}

// tables are such as can be, at their bounds.
func tables() []named {
	last := api.MaxLSN
	return []named{
		{"the empty one", Table{}},
		{"lists that are empty", Table{rows(), pages()}},
		{"some", some()},
		{"the least row", Table{Txns: rows(row(1, api.Running, 1, 1, 0))}},
		{"a Next that is the Last", Table{Txns: rows(row(1, api.Aborting, 1, 1, 1))}},
		{"a Next below the First", Table{Txns: rows(row(1, api.Aborting, 5, 6, 2))}},
		{"the greatest row", Table{Txns: rows(row(api.MaxTxn, api.Committed, last, last, last))}},
		{"the greatest Last", Table{Txns: rows(row(3, api.Running, 1, last, 0))}},
		{"the greatest Last of the first row", Table{Txns: rows(row(3, api.Running, 1, last, 0), row(4, api.Running, 1, 1, 0))}},
		{"rows side by side", Table{Txns: rows(row(1, 1, 1, 1, 1), row(2, 1, 1, 1, 1), row(3, 1, 1, 1, 1))}},
		{"the first and the last", Table{Txns: rows(row(1, 3, 2, 2, 2), row(api.MaxTxn, 1, 1, 1, 1))}},
		{"MaxRows", Table{Txns: many(api.MaxRows, 1, 1)}},
		{"more than MaxRows", Table{Txns: many(api.MaxRows+1, 3, 5)}},
		{"hundreds", Table{Txns: many(700, 1, 2)}},
		{"the page 0", Table{Dirty: pages(dirty(0, 1))}},
		{"the last page", Table{Dirty: pages(dirty(api.MaxPages-1, last))}},
		{"Recs that fall", Table{Dirty: pages(dirty(0, last), dirty(1, 7), dirty(31, 1))}},
		{"all pages", Table{Txns: many(4, 5, 1), Dirty: allPages()}},
	}
}

// P16.1: a table that can't be.

// badTables are tables each with one fault, at each row.
func badTables() []named {
	var all []named
	for _, f := range []struct {
		name string
		make func(*api.TxnRow)
	}{
		{"a Txn of 0", func(r *api.TxnRow) { r.Txn = 0 }},
		{"a Txn below 0", func(r *api.TxnRow) { r.Txn = -1 }},
		{"the least Txn", func(r *api.TxnRow) { r.Txn = math.MinInt }},
		{"a Txn above", func(r *api.TxnRow) { r.Txn = api.MaxTxn + 1 }},
		{"the greatest Txn", func(r *api.TxnRow) { r.Txn = math.MaxInt }},
		{"a State of 0", func(r *api.TxnRow) { r.State = 0 }},
		{"a State below 0", func(r *api.TxnRow) { r.State = -1 }},
		{"a State above", func(r *api.TxnRow) { r.State = api.Committed + 1 }},
		{"the greatest State", func(r *api.TxnRow) { r.State = math.MaxInt }},
		{"a First of 0", func(r *api.TxnRow) { r.First = 0 }},
		{"a First above Last", func(r *api.TxnRow) { r.First = r.Last + 1 }},
		{"the greatest First", func(r *api.TxnRow) { r.First = top }},
		{"a Last of 0", func(r *api.TxnRow) { r.Last, r.Next = 0, 0 }},
		{"a First and a Last of 0", func(r *api.TxnRow) { r.First, r.Last, r.Next = 0, 0, 0 }},
		{"a Last above", func(r *api.TxnRow) { r.Last = api.MaxLSN + 1 }},
		{"a First and a Last above", func(r *api.TxnRow) { r.First, r.Last = api.MaxLSN+1, api.MaxLSN+1 }},
		{"the greatest Last", func(r *api.TxnRow) { r.Last = top }},
		{"a Next above Last", func(r *api.TxnRow) { r.Next = r.Last + 1 }},
		{"the greatest Next", func(r *api.TxnRow) { r.Next = top }},
		{"nothing in the row", func(r *api.TxnRow) { *r = api.TxnRow{} }},
	} {
		for i := range some().Txns {
			x := some()
			f.make(&x.Txns[i])
			all = append(all, named{fmt.Sprintf("%s at %d", f.name, i), x})
		}
	}
	for _, f := range []struct {
		name string
		make func(*api.DirtyRow)
	}{
		{"a Page below 0", func(r *api.DirtyRow) { r.Page = -1 }},
		{"the least Page", func(r *api.DirtyRow) { r.Page = math.MinInt }},
		{"a Page above", func(r *api.DirtyRow) { r.Page = api.MaxPages }},
		{"the greatest Page", func(r *api.DirtyRow) { r.Page = math.MaxInt }},
		{"a Rec of 0", func(r *api.DirtyRow) { r.Rec = 0 }},
		{"a Rec above", func(r *api.DirtyRow) { r.Rec = api.MaxLSN + 1 }},
		{"the greatest Rec", func(r *api.DirtyRow) { r.Rec = top }},
	} {
		for i := range some().Dirty {
			x := some()
			f.make(&x.Dirty[i])
			all = append(all, named{fmt.Sprintf("%s at %d", f.name, i), x})
		}
	}
	return append(all, unsorted()...)
}

// unsorted are tables whose rows don't rise, at each place.
func unsorted() []named {
	var all []named
	for i := range len(some().Txns) - 1 {
		alike, falls, swapped := some(), some(), some()
		alike.Txns[i+1].Txn = alike.Txns[i].Txn
		falls.Txns[i+1].Txn = falls.Txns[i].Txn - 1
		swapped.Txns[i], swapped.Txns[i+1] = swapped.Txns[i+1], swapped.Txns[i]
		all = append(all,
			named{fmt.Sprintf("Txns alike at %d", i), alike},
			named{fmt.Sprintf("Txns that fall at %d", i), falls},
			named{fmt.Sprintf("Txns swapped at %d", i), swapped})
	}
	for i := range len(some().Dirty) - 1 {
		alike, falls, swapped := some(), some(), some()
		alike.Dirty[i+1].Page = alike.Dirty[i].Page
		falls.Dirty[i+1].Page = falls.Dirty[i].Page - 1
		swapped.Dirty[i], swapped.Dirty[i+1] = swapped.Dirty[i+1], swapped.Dirty[i]
		all = append(all,
			named{fmt.Sprintf("Pages alike at %d", i), alike},
			named{fmt.Sprintf("Pages that fall at %d", i), falls},
			named{fmt.Sprintf("Pages swapped at %d", i), swapped})
	}
	twice := some()
	twice.Txns = append(twice.Txns, twice.Txns...)
	return append(all, named{"all rows twice", twice},
		named{"rows behind all pages", Table{Dirty: append(allPages(), dirty(api.MaxPages, 1))}})
}

// ErrArg comes ahead of ErrForm, and of all records.
func TestMoreOfBadTables(t *testing.T) {
	for _, c := range badTables() {
		refusesMore(t, c.name, c.t, nil, arg)
		refusesMore(t, c.name, c.t, []api.Record{}, arg)
		refusesMore(t, c.name, c.t, []api.Record{begin(50)}, arg)
		refusesMore(t, c.name, c.t, []api.Record{put(50, 2, 6, 1)}, arg)
		refusesMore(t, c.name, c.t, []api.Record{begin(1)}, arg)
		refusesMore(t, c.name, c.t, []api.Record{{}}, arg)
		refusesMore(t, c.name, c.t, []api.Record{begin(51), begin(50)}, arg)
	}
}

// P16.1, P16.2: records that are no log.

// noLog is records that are none, and why.
type noLog struct {
	name string
	l    []api.Record
}

// noLogs are logs each with one fault, at each place, all of whose LSNs are
// above those of some.
func noLogs() []noLog {
	var all []noLog
	good := func() []api.Record {
		l := mixed()
		for i := range l {
			l[i].LSN += 10
			if l[i].Kind == api.RCheck {
				l[i].Begin += 10
			}
		}
		return l
	}
	for _, f := range []struct {
		name string
		make func(*api.Record)
	}{
		{"no kind", func(r *api.Record) { r.Kind = 0 }},
		{"a kind above", func(r *api.Record) { r.Kind = api.RCheck + 1 }},
		{"no LSN", func(r *api.Record) { r.LSN = 0 }},
		{"the greatest LSN", func(r *api.Record) { r.LSN = top }},
		{"a Txn below", func(r *api.Record) { r.Txn = -1 }},
		{"a Txn above", func(r *api.Record) { r.Txn = api.MaxTxn + 1 }},
		{"its own Prev", func(r *api.Record) { r.Prev = r.LSN }},
		{"its own Next", func(r *api.Record) { r.Next = r.LSN }},
		{"a page above", func(r *api.Record) { r.Change.Page = api.MaxPages }},
		{"a page below", func(r *api.Record) { r.Change.Page = -1 }},
		{"no kind of change", func(r *api.Record) { r.Change.Kind = 4 }},
		{"a Save above", func(r *api.Record) { r.Save = api.MaxSaves + 1 }},
		{"its own Begin", func(r *api.Record) { r.Begin = r.LSN }},
		{"too many rows", func(r *api.Record) { r.Txns = many(api.MaxRows+1, 1, 1) }},
		{"a row of its own LSN", func(r *api.Record) { r.Txns = rows(row(1, 1, 1, r.LSN, 0)) }},
		{"a dirty page above", func(r *api.Record) { r.Dirty = pages(dirty(api.MaxPages, 1)) }},
	} {
		for i := range good() {
			l := good()
			f.make(&l[i])
			all = append(all, noLog{fmt.Sprintf("%s at %d", f.name, i), l})
		}
	}
	for i := range len(good()) - 1 {
		alike, falls, swapped := good(), good(), good()
		alike[i+1] = plain(api.RCommit, alike[i].LSN, 1, 0)
		falls[i+1] = plain(api.RCommit, falls[i].LSN-1, 1, 0)
		swapped[i], swapped[i+1] = swapped[i+1], swapped[i]
		all = append(all,
			noLog{fmt.Sprintf("alike at %d", i), alike},
			noLog{fmt.Sprintf("falls at %d", i), falls},
			noLog{fmt.Sprintf("swapped at %d", i), swapped})
	}
	return all
}

func TestNoLogs(t *testing.T) {
	for _, c := range noLogs() {
		refusesOf(t, c.name, c.l)
		refusesMore(t, c.name, Table{}, c.l, form)
		refusesMore(t, c.name, some(), c.l, form)
	}
}

// What isn't right is told, though it stands ahead of a checkpoint that is
// whole.
func TestOfLooksAtAll(t *testing.T) {
	l := []api.Record{put(1, 1, 0, api.MaxPages), begin(2), check(3, 2, Table{})}
	refusesOf(t, "not right ahead of a checkpoint", l)
	l = []api.Record{put(2, 1, 0, 1), begin(2), check(3, 2, Table{})}
	refusesOf(t, "alike ahead of a checkpoint", l)
}

// P16.1: a first LSN that the table has come to already.

// firsts are records of each kind with an LSN.
func firsts(lsn uint64) []api.Record {
	l := []api.Record{put(lsn, 2, 0, 1), put(lsn, 9, 0, 9), back(lsn, 2, 0, 0, 1), begin(lsn)}
	for _, kind := range []int{api.RCommit, api.RAbort, api.REnd, api.RSave} {
		l = append(l, plain(kind, lsn, 2, 0), plain(kind, lsn, 9, 0))
	}
	if lsn > 1 {
		l = append(l, check(lsn, 1, Table{}))
	}
	return l
}

// greatestOf is the greatest Last or Rec of a table.
func greatestOf(x Table) uint64 {
	all := []uint64{0}
	for _, r := range x.Txns {
		all = append(all, r.Last)
	}
	for _, r := range x.Dirty {
		all = append(all, r.Rec)
	}
	return slices.Max(all)
}

func TestMoreOfOlderRecords(t *testing.T) {
	for _, c := range tables() {
		most := greatestOf(c.t)
		for _, lsn := range []uint64{1, most / 2, most - 1, most} {
			if lsn < 1 || lsn > most {
				continue
			}
			for _, r := range firsts(lsn) {
				name := fmt.Sprintf("%s, %v", c.name, r)
				refusesMore(t, name, c.t, []api.Record{r}, form)
				if lsn < api.MaxLSN {
					refusesMore(t, name, c.t, []api.Record{r, begin(api.MaxLSN)}, form)
				}
			}
		}
		if most == api.MaxLSN {
			continue
		}
		for _, r := range firsts(most + 1) {
			wantMore(t, c.t, []api.Record{r}, byWords(c.t, []api.Record{r}))
		}
	}
}

// A Last, and a Rec, of each row is looked at, the others being low; a First
// and a Next are below a Last anyway.
func TestMoreOfEachLast(t *testing.T) {
	low := func() Table {
		return Table{rows(row(1, 1, 1, 2, 0), row(2, 2, 1, 2, 0), row(3, 3, 1, 2, 0)), pages(dirty(0, 2), dirty(1, 2), dirty(2, 2))}
	}
	for i := range 6 {
		x := low()
		if i < 3 {
			x.Txns[i].Last = 20
		} else {
			x.Dirty[i-3].Rec = 20
		}
		for lsn := uint64(1); lsn <= 20; lsn++ {
			refusesMore(t, fmt.Sprintf("the row %d, %d", i, lsn), x, []api.Record{begin(lsn), begin(40)}, form)
		}
		wantMore(t, x, []api.Record{begin(21), begin(40)}, x)
	}
	wantMore(t, low(), []api.Record{begin(3)}, low())
}

// P16.1: how a record is taken in.

func TestTakeEachKind(t *testing.T) {
	had := row(2, api.Running, 3, 6, 5)
	for _, c := range []struct {
		name     string
		r        api.Record
		row, new api.TxnRow // what becomes of a row, and of none
	}{
		{"update", put(12, 2, 6, 1), row(2, api.Running, 3, 12, 12), row(2, api.Running, 12, 12, 12)},
		{"clr to a change", back(12, 2, 6, 4, 1), row(2, api.Running, 3, 12, 4), row(2, api.Running, 12, 12, 4)},
		{"clr to none", back(12, 2, 6, 0, 1), row(2, api.Running, 3, 12, 0), row(2, api.Running, 12, 12, 0)},
		{"clr to the record ahead", back(12, 2, 6, 11, 1), row(2, api.Running, 3, 12, 11), row(2, api.Running, 12, 12, 11)},
		{"commit", plain(api.RCommit, 12, 2, 6), row(2, api.Committed, 3, 12, 5), row(2, api.Committed, 12, 12, 0)},
		{"abort", plain(api.RAbort, 12, 2, 6), row(2, api.Aborting, 3, 12, 5), row(2, api.Aborting, 12, 12, 0)},
		{"savepoint", plain(api.RSave, 12, 2, 6), row(2, api.Running, 3, 12, 5), row(2, api.Running, 12, 12, 0)},
	} {
		want := Table{Txns: rows(c.new)}
		if c.r.Change.Kind != 0 {
			want.Dirty = pages(dirty(1, 12))
		}
		wantMore(t, Table{}, []api.Record{c.r}, want)
		wantOf(t, []api.Record{c.r}, want)
		want.Txns = rows(c.row)
		wantMore(t, Table{Txns: rows(had)}, []api.Record{c.r}, want)
		for _, rec := range []uint64{1, 7, 11} {
			want.Dirty = pages(dirty(1, rec))
			wantMore(t, Table{Txns: rows(had), Dirty: pages(dirty(1, rec))}, []api.Record{c.r}, want)
		}
		want.Txns = rows(c.new)
		wantMore(t, Table{Dirty: pages(dirty(1, 11))}, []api.Record{c.r}, Table{want.Txns, pages(dirty(1, 11))})
	}
}

// Of each State: what a record that tells no other one leaves of it.
func TestTakeKeepsStates(t *testing.T) {
	for state := api.Running; state <= api.Committed; state++ {
		x := Table{Txns: rows(row(2, state, 3, 6, 5))}
		for _, r := range []api.Record{put(12, 2, 6, 1), back(12, 2, 6, 4, 1), plain(api.RSave, 12, 2, 6)} {
			if got, errno := More(x, []api.Record{r}); errno != ok || len(got.Txns) != 1 || got.Txns[0].State != state {
				t.Errorf("the State %d behind %v: %v, %d", state, r, got, errno)
			}
		}
		wantMore(t, x, []api.Record{plain(api.RAbort, 12, 2, 6)}, Table{Txns: rows(row(2, api.Aborting, 3, 12, 5))})
		wantMore(t, x, []api.Record{plain(api.RCommit, 12, 2, 6)}, Table{Txns: rows(row(2, api.Committed, 3, 12, 5))})
		wantMore(t, x, []api.Record{plain(api.REnd, 12, 2, 6)}, Table{})
	}
}

func TestTakeEnd(t *testing.T) {
	end := func(txn int) []api.Record { return []api.Record{plain(api.REnd, 12, txn, 0)} }
	for i, r := range some().Txns {
		want := some()
		want.Txns = slices.Delete(want.Txns, i, i+1)
		wantMore(t, some(), end(r.Txn), want)
	}
	for _, txn := range []int{1, 3, 5, 7, api.MaxTxn} {
		wantMore(t, some(), end(txn), some())
		wantMore(t, Table{}, end(txn), Table{})
		wantOf(t, end(txn), Table{})
	}
}

// A transaction's record behind its end has a new row.
func TestTakeBehindEnd(t *testing.T) {
	l := []api.Record{put(1, 2, 0, 1), plain(api.RCommit, 2, 2, 1), plain(api.REnd, 3, 2, 2)}
	wantOf(t, l, Table{Dirty: pages(dirty(1, 1))})
	wantOf(t, append(clone(l), plain(api.REnd, 5, 2, 3)), Table{Dirty: pages(dirty(1, 1))})
	for _, c := range []struct {
		r    api.Record
		want api.TxnRow
	}{
		{put(5, 2, 3, 1), row(2, api.Running, 5, 5, 5)},
		{back(5, 2, 3, 1, 1), row(2, api.Running, 5, 5, 1)},
		{plain(api.RSave, 5, 2, 3), row(2, api.Running, 5, 5, 0)},
		{plain(api.RAbort, 5, 2, 3), row(2, api.Aborting, 5, 5, 0)},
		{plain(api.RCommit, 5, 2, 3), row(2, api.Committed, 5, 5, 0)},
	} {
		want := Table{rows(c.want), pages(dirty(1, 1))}
		wantOf(t, append(clone(l), c.r), want)
		wantMore(t, Table{}, append(clone(l), c.r), want)
	}
}

// RBegin and RCheck change nothing, whatever rows the RCheck has.
func TestTakeCheckpoints(t *testing.T) {
	other := Table{rows(row(1, api.Running, 1, 2, 1), row(2, api.Committed, 1, 2, 1)), pages(dirty(1, 1), dirty(9, 9))}
	for _, c := range tables() {
		if greatestOf(c.t) >= 1000 {
			continue
		}
		wantMore(t, c.t, []api.Record{begin(1000)}, c.t)
		wantMore(t, c.t, []api.Record{check(1000, 1, other)}, c.t)
		wantMore(t, c.t, []api.Record{begin(1000), check(1001, 1000, other)}, c.t)
		wantMore(t, c.t, []api.Record{begin(1000), check(1001, 1000, Table{}), begin(1002)}, c.t)
	}
}

// New rows are put in ahead of all, between and behind all.
func TestTakePutsIn(t *testing.T) {
	for place, txn := range []int{1, 3, 5, 7} {
		for at, id := range []int{0, 2, 4, 6} {
			want := some()
			want.Txns = slices.Insert(want.Txns, place, row(txn, api.Running, 12, 12, 12))
			want.Dirty = slices.Insert(want.Dirty, at, dirty(id, 12))
			wantMore(t, some(), []api.Record{put(12, txn, 0, id)}, want)
			want.Txns[place].Next = 4
			wantMore(t, some(), []api.Record{back(12, txn, 0, 4, id)}, want)
		}
	}
	want := some()
	want.Txns = append(want.Txns, row(api.MaxTxn, api.Running, 12, 12, 12))
	want.Dirty = append(want.Dirty, dirty(31, 12))
	wantMore(t, some(), []api.Record{put(12, api.MaxTxn, 0, 31)}, want)
}

// Transactions and pages that come in any order stand in theirs.
func TestTakeInAnyOrder(t *testing.T) {
	rnd := rand.New(rand.NewSource(16))
	for range 50 {
		var l []api.Record
		for i, txn := range rnd.Perm(60) {
			l = append(l, put(uint64(i+1), txn+1, 0, (txn*7+i)%api.MaxPages))
		}
		got, errno := Of(l)
		if errno != ok || len(got.Txns) != 60 {
			t.Fatalf("Of: %v, %d", got, errno)
		}
		for i, r := range got.Txns {
			if r.Txn != i+1 || l[r.First-1].Txn != i+1 || r.Last != r.First {
				t.Fatalf("Of: the row %d is %v", i, r)
			}
		}
		if !slices.IsSortedFunc(got.Dirty, func(a, b api.DirtyRow) int { return a.Page - b.Page }) {
			t.Fatalf("Of: the pages %v", got.Dirty)
		}
	}
}

// More rows than a checkpoint has room for.
func TestTakeMoreThanMaxRows(t *testing.T) {
	var l []api.Record
	for i := range 3 * api.MaxRows {
		l = append(l, plain(api.RSave, uint64(i+1), i+1, 0))
	}
	if got, errno := Of(l); errno != ok || len(got.Txns) != 3*api.MaxRows {
		t.Errorf("Of: %d rows, %d", len(got.Txns), errno)
	}
	x := Table{Txns: many(api.MaxRows, 1, 1)}
	want := Table{Txns: append(slices.Clone(x.Txns), row(30, api.Running, 50, 50, 0))}
	wantMore(t, x, []api.Record{plain(api.RSave, 50, 30, 0)}, want)
}

// The numbers at their ends.
func TestTakeAtBounds(t *testing.T) {
	last := api.MaxLSN
	wantOf(t, []api.Record{put(last, api.MaxTxn, last-1, 31)}, Table{rows(row(api.MaxTxn, 1, last, last, last)), pages(dirty(31, last))})
	wantMore(t, Table{Txns: rows(row(1, 1, 1, last-1, 0))}, []api.Record{back(last, 1, last-1, last-1, 0)},
		Table{rows(row(1, 1, 1, last, last-1)), pages(dirty(0, last))})
	refusesMore(t, "behind the last number", Table{Txns: rows(row(1, 1, 1, last, 0))}, []api.Record{begin(last)}, form)
}

// P16.2: checkpoints.

// other is rows that no log here comes to.
func other() Table {
	return Table{rows(row(7, api.Aborting, 1, 2, 2), row(9, api.Running, 2, 2, 0)), pages(dirty(5, 1), dirty(20, 2))}
}

func TestOfWholeCheckpoint(t *testing.T) {
	l := []api.Record{put(3, 1, 0, 3), begin(4), check(5, 4, other())}
	wantOf(t, l, other())
	wantOf(t, l[1:], other())
	l = append(l, put(6, 1, 3, 3), plain(api.RCommit, 8, 9, 2), plain(api.REnd, 9, 7, 0))
	wantOf(t, l, Table{
		rows(row(1, api.Running, 6, 6, 6), row(9, api.Committed, 2, 8, 0)),
		pages(dirty(3, 6), dirty(5, 1), dirty(20, 2)),
	})
	wantOf(t, []api.Record{put(3, 1, 0, 3), begin(4), check(5, 4, Table{})}, Table{})
}

// Records between the RBegin and the RCheck are taken into the RCheck's rows.
func TestOfBetween(t *testing.T) {
	l := []api.Record{put(3, 1, 0, 3), begin(4), put(5, 2, 0, 4), plain(api.REnd, 6, 7, 0), put(7, 9, 2, 5), check(8, 4, other()), put(9, 3, 0, 0)}
	wantOf(t, l, Table{
		rows(row(2, api.Running, 5, 5, 5), row(3, api.Running, 9, 9, 9), row(9, api.Running, 2, 7, 7)),
		pages(dirty(0, 9), dirty(4, 5), dirty(5, 1), dirty(20, 2)),
	})
}

// The rows of an RCheck may tell of what stands behind its RBegin: the records
// there are taken into them all the same.
func TestOfRowsBehindTheBegin(t *testing.T) {
	x := Table{rows(row(1, api.Committed, 6, 9, 8)), pages(dirty(3, 9))}
	l := []api.Record{begin(4), plain(api.RSave, 5, 1, 0), put(6, 2, 0, 3), check(10, 4, x)}
	wantOf(t, l, Table{rows(row(1, api.Committed, 6, 5, 8), row(2, api.Running, 6, 6, 6)), pages(dirty(3, 9))})
}

// Of a checkpoint that isn't whole nothing is taken.
func TestOfCheckpointsNotWhole(t *testing.T) {
	want := Table{rows(row(1, api.Running, 3, 3, 3)), pages(dirty(3, 3))}
	for name, l := range map[string][]api.Record{
		"an RBegin alone":                     {put(3, 1, 0, 3), begin(4)},
		"an RBegin alone, first":              {begin(2), put(3, 1, 0, 3)},
		"an RCheck alone":                     {put(3, 1, 0, 3), check(5, 4, other())},
		"an RCheck alone, first":              {check(2, 1, Table{}), put(3, 1, 0, 3)},
		"the RBegin behind it":                {put(3, 1, 0, 3), check(6, 4, other()), begin(7)},
		"another RBegin, ahead":               {put(3, 1, 0, 3), begin(4), check(6, 5, other())},
		"another RBegin, behind its Begin":    {put(3, 1, 0, 3), begin(5), check(6, 4, other())},
		"an update's Begin":                   {put(3, 1, 0, 3), begin(4), check(6, 3, other())},
		"a Begin below all":                   {put(3, 1, 0, 3), begin(4), check(6, 1, other())},
		"an RCheck's Begin, itself not whole": {put(3, 1, 0, 3), check(5, 4, other()), check(6, 5, other())},
	} {
		t.Run(name, func(t *testing.T) { wantOf(t, l, want) })
	}
	for _, r := range []api.Record{
		plain(api.RCommit, 2, 8, 0), plain(api.RAbort, 2, 8, 0), plain(api.RSave, 2, 8, 0),
		back(2, 8, 0, 1, 6), put(2, 8, 0, 6), plain(api.REnd, 2, 8, 0),
	} {
		l := []api.Record{r, put(3, 1, 0, 3)}
		want, _ := Of(l)
		wantOf(t, append(l, check(6, 2, other())), want)
	}
}

// A whole one's RCheck is another one's Begin: only the first is whole.
func TestOfBeginOfACheck(t *testing.T) {
	l := []api.Record{put(3, 1, 0, 3), begin(4), check(5, 4, other()), check(6, 5, Table{}), put(8, 7, 2, 9)}
	wantOf(t, l, Table{rows(row(7, api.Aborting, 1, 8, 8), row(9, api.Running, 2, 2, 0)), pages(dirty(5, 1), dirty(9, 8), dirty(20, 2))})
}

// One in the other, and one across the other: the RCheck that stands last
// counts, and its RBegin.
func TestOfTwoCheckpoints(t *testing.T) {
	in, out := Table{Txns: rows(row(11, 1, 1, 1, 1))}, Table{Txns: rows(row(12, 1, 1, 1, 1))}
	between := func(x, y int) []api.Record {
		return []api.Record{
			begin(2), put(3, 1, 0, 1), begin(4), put(5, 2, 0, 2), check(6, uint64(x), in),
			put(7, 3, 0, 3), check(8, uint64(y), out), put(9, 4, 0, 4),
		}
	}
	behind2 := rows(row(1, 1, 3, 3, 3), row(2, 1, 5, 5, 5), row(3, 1, 7, 7, 7), row(4, 1, 9, 9, 9))
	pages2 := pages(dirty(1, 3), dirty(2, 5), dirty(3, 7), dirty(4, 9))
	wantOf(t, between(4, 2), Table{append(slices.Clone(behind2), out.Txns...), pages2})
	wantOf(t, between(2, 4), Table{append(slices.Clone(behind2[1:]), out.Txns...), pages2[1:]})
	wantOf(t, between(4, 4), Table{append(slices.Clone(behind2[1:]), out.Txns...), pages2[1:]})
	wantOf(t, between(2, 1), Table{append(slices.Clone(behind2), in.Txns...), pages2})
	wantOf(t, between(4, 7), Table{append(slices.Clone(behind2[1:]), in.Txns...), pages2[1:]})
	wantOf(t, between(1, 1), Table{behind2, pages2})
}

// One behind the other.
func TestOfCheckpointsInARow(t *testing.T) {
	first, second := Table{Txns: rows(row(11, 1, 1, 1, 1))}, Table{Dirty: pages(dirty(30, 2))}
	l := []api.Record{begin(2), check(3, 2, first), put(4, 1, 0, 1), begin(5), check(6, 5, second), put(7, 2, 0, 2)}
	wantOf(t, l, Table{rows(row(2, 1, 7, 7, 7)), pages(dirty(2, 7), dirty(30, 2))})
	onlyFirst := Table{rows(row(1, 1, 4, 4, 4), row(2, 1, 7, 7, 7), row(11, 1, 1, 1, 1)), pages(dirty(1, 4), dirty(2, 7))}
	gone := clone(l)
	gone[4] = begin(6)
	wantOf(t, gone, onlyFirst)
	gone = clone(l)
	gone[4].Begin = 1
	wantOf(t, gone, onlyFirst)
	gone = clone(l)
	gone[3] = plain(api.REnd, 5, 4, 0)
	wantOf(t, gone, onlyFirst)
	wantOf(t, slices.Delete(clone(l), 4, 5), onlyFirst)
	wantOf(t, slices.Delete(clone(l), 3, 4), onlyFirst)
}

// More takes no checkpoint's rows.
func TestMoreGoesPastCheckpoints(t *testing.T) {
	l := []api.Record{put(3, 1, 0, 3), begin(4), check(5, 4, other()), put(6, 2, 0, 4)}
	wantMore(t, Table{}, l, Table{rows(row(1, 1, 3, 3, 3), row(2, 1, 6, 6, 6)), pages(dirty(3, 3), dirty(4, 6))})
}

// P16.2: Losers, Check.

func TestLosers(t *testing.T) {
	x := some()
	if got := Losers(x); !slices.Equal(got, x.Txns[:2]) {
		t.Errorf("Losers: %v", got)
	}
	for _, c := range []Table{{}, {rows(), pages()}, {Dirty: allPages()}, {Txns: rows(row(1, api.Committed, 1, 1, 1), row(2, api.Committed, 2, 2, 2))}} {
		if got := Losers(c); len(got) != 0 {
			t.Errorf("Losers(%v): %v", c, got)
		}
	}
	for i := range 1 << 8 {
		var all, want []api.TxnRow
		for txn := range 4 {
			r := row(txn+1, i>>(2*txn)&3, 1, 2, 2)
			all = append(all, r)
			if r.State != api.Committed {
				want = append(want, r)
			}
		}
		if got := Losers(Table{Txns: all}); !slices.Equal(got, want) {
			t.Errorf("Losers(%v): %v", all, got)
		}
	}
}

// Losers asks for no table that can be: all rows but the committed ones, as
// they are and in their order.
func TestLosersOfBadTables(t *testing.T) {
	odd := rows(row(9, 0, 7, 2, 99), row(-1, 4, 0, 0, 0), row(9, api.Committed, 0, 0, 0), row(3, -3, top, top, top), row(3, math.MaxInt, 1, 1, 1), api.TxnRow{})
	want := slices.Delete(slices.Clone(odd), 2, 3)
	if got := Losers(Table{Txns: odd, Dirty: pages(dirty(-1, 0))}); !slices.Equal(got, want) {
		t.Errorf("Losers: %v", got)
	}
	for _, c := range badTables() {
		want := slices.DeleteFunc(slices.Clone(c.t.Txns), func(r api.TxnRow) bool { return r.State == api.Committed })
		if got := Losers(c.t); !slices.Equal(got, want) {
			t.Errorf("%s: Losers: %v", c.name, got)
		}
	}
}

func TestCheck(t *testing.T) {
	for _, c := range append(tables(), badTables()...) {
		for _, at := range []uint64{0, 1, 4, api.MaxLSN, api.MaxLSN + 1, top} {
			want := api.Record{Kind: api.RCheck, Begin: at, Txns: c.t.Txns, Dirty: c.t.Dirty}
			if got := Check(c.t, at); !record.Same(got, want) {
				t.Errorf("%s: Check(%d): %v", c.name, at, got)
			}
		}
	}
}

// With an LSN put in it is a record that is right, and that a log takes up.
func TestCheckInALog(t *testing.T) {
	x, _ := Of(mixed())
	r := Check(x, 21)
	r.LSN = 23
	if !record.Right(r) {
		t.Fatalf("not right: %v", r)
	}
	wantOf(t, []api.Record{begin(21), r}, x)
}

// P16.1 to P16.3: by the words, told another way: of each transaction the
// records behind its last end, as a whole.

// byWords is a table with records taken in.
func byWords(x Table, l []api.Record) Table {
	txns, dirties := map[int]api.TxnRow{}, map[int]uint64{}
	runs := map[int][]api.Record{}
	for _, r := range x.Txns {
		txns[r.Txn] = r
	}
	for _, r := range x.Dirty {
		dirties[r.Page] = r.Rec
	}
	for _, r := range l {
		if r.Kind == api.REnd {
			delete(txns, r.Txn)
			delete(runs, r.Txn)
		} else if r.Kind != api.RBegin && r.Kind != api.RCheck {
			runs[r.Txn] = append(runs[r.Txn], r)
		}
		if _, had := dirties[r.Change.Page]; !had && (r.Kind == api.RUpdate || r.Kind == api.RClr) {
			dirties[r.Change.Page] = r.LSN
		}
	}
	for txn, run := range runs {
		if _, had := txns[txn]; !had {
			txns[txn] = row(txn, api.Running, run[0].LSN, 0, 0)
		}
		txns[txn] = behindRun(txns[txn], run)
	}
	all := Table{}
	for _, txn := range slices.Sorted(maps.Keys(txns)) {
		all.Txns = append(all.Txns, txns[txn])
	}
	for _, id := range slices.Sorted(maps.Keys(dirties)) {
		all.Dirty = append(all.Dirty, dirty(id, dirties[id]))
	}
	return all
}

// behindRun is a row behind some records of its transaction, none of which is
// an end: each field is that of the last record that tells it.
func behindRun(x api.TxnRow, run []api.Record) api.TxnRow {
	x.Last = run[len(run)-1].LSN
	last := func(kinds ...int) (api.Record, bool) {
		for i := len(run) - 1; i >= 0; i-- {
			if slices.Contains(kinds, run[i].Kind) {
				return run[i], true
			}
		}
		return api.Record{}, false
	}
	if r, found := last(api.RUpdate, api.RClr); found {
		x.Next = map[int]uint64{api.RUpdate: r.LSN, api.RClr: r.Next}[r.Kind]
	}
	if r, found := last(api.RAbort, api.RCommit); found {
		x.State = map[int]int{api.RAbort: api.Aborting, api.RCommit: api.Committed}[r.Kind]
	}
	return x
}

// ofByWords is the table of a log: the whole checkpoints are all looked for.
func ofByWords(l []api.Record) Table {
	x, rest := Table{}, l
	for i, c := range l {
		for j, b := range l[:i] {
			if c.Kind == api.RCheck && b.Kind == api.RBegin && c.Begin == b.LSN {
				x, rest = Table{c.Txns, c.Dirty}, l[j+1:]
			}
		}
	}
	return byWords(x, rest)
}

func holdsWords(t *testing.T, l []api.Record) {
	t.Helper()
	if got, errno := Of(l); errno != ok || !same(got, ofByWords(l)) {
		t.Fatalf("Of(%v): %v, %d, not %v", l, got, errno, ofByWords(l))
	}
	if got, errno := More(Table{}, l); errno != ok || !same(got, byWords(Table{}, l)) {
		t.Fatalf("More by %v: %v, %d, not %v", l, got, errno, byWords(Table{}, l))
	}
}

// each goes through records of all kinds, of two transactions and two pages,
// and of checkpoints with each Begin.
func each(lsn uint64, do func(api.Record)) {
	for txn := 1; txn <= 2; txn++ {
		for page := range 2 {
			do(put(lsn, txn, 0, page))
		}
		for next := range lsn {
			do(back(lsn, txn, 0, next, 0))
		}
		for _, kind := range []int{api.RCommit, api.RAbort, api.REnd, api.RSave} {
			do(plain(kind, lsn, txn, 0))
		}
	}
	do(begin(lsn))
	for begin := uint64(1); begin < lsn; begin++ {
		do(check(lsn, begin, Table{rows(row(2, 2, 1, 1, 1)), pages(dirty(1, 1))}))
	}
}

// All logs of up to four records, behind the empty table and behind others.
func TestAllSmallLogs(t *testing.T) {
	tables := []Table{{}, {rows(row(1, 3, 1, 2, 1)), pages(dirty(1, 1))}, {rows(row(1, 2, 2, 2, 0), row(2, 1, 1, 1, 0)), pages(dirty(0, 2), dirty(1, 1))}}
	var l []api.Record
	var deeper func()
	deeper = func() {
		holdsWords(t, l)
		for _, x := range tables {
			later := clone(l)
			for i := range later {
				later[i].LSN += 2
			}
			if got, errno := More(x, later); errno != ok || !same(got, byWords(x, later)) {
				t.Fatalf("More(%v, %v): %v, %d, not %v", x, later, got, errno, byWords(x, later))
			}
		}
		if len(l) == 4 {
			return
		}
		each(uint64(len(l)+1), func(r api.Record) {
			l = append(l, r)
			deeper()
			l = l[:len(l)-1]
		})
	}
	deeper()
}

// randomLog has records of any transactions and pages, and checkpoints with any
// rows and any Begins.
func randomLog(rnd *rand.Rand, lsn uint64, n, txns int) []api.Record {
	var l []api.Record
	for range n {
		lsn += 1 + uint64(rnd.Intn(3)*rnd.Intn(2))
		txn, id, prev, next := 1+rnd.Intn(txns), rnd.Intn(api.MaxPages), uint64(rnd.Int63n(int64(lsn))), uint64(rnd.Int63n(int64(lsn)))
		switch kind := 1 + rnd.Intn(8); {
		case kind == api.RUpdate:
			l = append(l, put(lsn, txn, prev, id))
		case kind == api.RClr:
			l = append(l, back(lsn, txn, prev, next, id))
		case kind == api.RCheck && len(l) > 0:
			begin := l[rnd.Intn(len(l))].LSN
			l = append(l, check(lsn, begin, randomTable(rnd, lsn-1)))
		case kind >= api.RBegin:
			l = append(l, begin(lsn))
		default:
			l = append(l, plain(kind, lsn, txn, prev))
		}
	}
	return l
}

// randomTable is one whose numbers are at most a number.
func randomTable(rnd *rand.Rand, most uint64) Table {
	var x Table
	if most == 0 {
		return x
	}
	number := func(n uint64) uint64 { return 1 + uint64(rnd.Int63n(int64(n))) }
	for txn, id := 0, -1; len(x.Txns) < api.MaxRows && len(x.Dirty) < api.MaxPages && rnd.Intn(5) > 0; {
		txn, id = txn+1+rnd.Intn(3), id+1+rnd.Intn(3)
		last := number(most)
		x.Txns = append(x.Txns, row(txn, 1+rnd.Intn(3), number(last), last, number(last+1)-1))
		if id < api.MaxPages {
			x.Dirty = append(x.Dirty, dirty(id, number(most)))
		}
	}
	return x
}

func TestRandomLogs(t *testing.T) {
	rnd := rand.New(rand.NewSource(1))
	for range 4000 {
		l := randomLog(rnd, 0, rnd.Intn(60), 1+rnd.Intn(20))
		if !txn.Good(l) {
			t.Fatalf("no log: %v", l)
		}
		holdsWords(t, l)
		x := randomTable(rnd, 30)
		l = randomLog(rnd, 30, rnd.Intn(60), 1+rnd.Intn(20))
		if got, errno := More(x, l); errno != ok || !same(got, byWords(x, l)) {
			t.Fatalf("More(%v, %v): %v, %d, not %v", x, l, got, errno, byWords(x, l))
		}
	}
}

// P16.3: in pieces, cut at each place.
func TestInPieces(t *testing.T) {
	rnd := rand.New(rand.NewSource(3))
	for range 300 {
		x := randomTable(rnd, 30)
		l := randomLog(rnd, 30, rnd.Intn(40), 1+rnd.Intn(9))
		want, _ := More(x, l)
		for i := range len(l) + 1 {
			first, errno := More(x, l[:i])
			if errno != ok {
				t.Fatalf("More, the first %d: %d", i, errno)
			}
			wantMore(t, first, l[i:], want)
		}
		one := x
		for _, r := range l {
			one, _ = More(one, []api.Record{r})
		}
		if !same(one, want) {
			t.Fatalf("one by one: %v, not %v", one, want)
		}
	}
}

// P16.3: Of in pieces, and with checkpoints put in: of a log of transactions
// as nodes run them, with checkpoints of its own and without.
func TestCheckpointsChangeNothing(t *testing.T) {
	for seed := range int64(30) {
		y := newYard(seed, seed%2 == 0)
		for range 60 {
			y.step()
		}
		want, errno := Of(y.log)
		if errno != ok || !same(want, byWords(Table{}, y.log)) {
			t.Fatalf("Of(%v): %v, %d", y.log, want, errno)
		}
		for i := range len(y.log) + 1 {
			ahead, errno := Of(y.log[:i])
			if errno != ok {
				t.Fatalf("Of the first %d: %d", i, errno)
			}
			wantMore(t, ahead, y.log[i:], want)
			for j := i; j <= len(y.log); j++ {
				wantOf(t, y.withCheckpoint(i, j, ahead), want)
			}
		}
	}
}

// Two checkpoints, one in the other, one across the other and one behind the
// other, with each one's table.
func TestTwoCheckpointsChangeNothing(t *testing.T) {
	rnd := rand.New(rand.NewSource(2))
	for seed := range int64(40) {
		y := newYard(seed, false)
		for range 40 {
			y.step()
		}
		want, _ := Of(y.log)
		for range 60 {
			var at [2][2]int
			for i := range at {
				a, b := rnd.Intn(len(y.log)+1), rnd.Intn(len(y.log)+1)
				at[i] = [2]int{min(a, b), max(a, b)}
			}
			l := y.withTwoCheckpoints(at)
			if !txn.Good(l) {
				t.Fatalf("no log: %v", l)
			}
			wantOf(t, l, want)
		}
	}
}

// apart is how far a yard's numbers stand from each other: between two of them
// there is room for checkpoints.
const apart = 8

// yard is the log of a node in the making: transactions mixed, of which each
// has a number of its own.
type yard struct {
	rnd     *rand.Rand
	checks  bool
	log     []api.Record
	lsn     uint64
	txns    int
	open    []runner
	begun   uint64
	kept    Table
	runs    map[int]string // what became of each: "", "committed" or "over"
	written map[int]bool
}

// runner is a transaction on its way: its changes that aren't taken back yet.
type runner struct {
	txn     int
	last    uint64
	changes []uint64
	back    bool
	done    bool
}

func newYard(seed int64, checks bool) *yard {
	return &yard{rnd: rand.New(rand.NewSource(seed)), checks: checks, runs: map[int]string{}, written: map[int]bool{}}
}

func (y *yard) add(r api.Record) uint64 {
	y.lsn += apart
	r.LSN = y.lsn
	y.log = append(y.log, r)
	return y.lsn
}

func (y *yard) write(x *runner, r api.Record) {
	r.Txn, r.Prev = x.txn, x.last
	x.last = y.add(r)
	y.written[x.txn] = true
}

// step does something of a transaction, or of a checkpoint.
func (y *yard) step() {
	if y.checks && y.rnd.Intn(8) == 0 {
		y.checkpoint()
		return
	}
	if len(y.open) < 6 && y.rnd.Intn(3) == 0 {
		y.txns++
		y.open = append(y.open, runner{txn: y.txns})
		y.runs[y.txns] = ""
		return
	}
	if len(y.open) == 0 {
		return
	}
	i := y.rnd.Intn(len(y.open))
	y.run(&y.open[i])
	if y.runs[y.open[i].txn] == "over" {
		y.open = slices.Delete(y.open, i, i+1)
	}
}

func (y *yard) run(x *runner) {
	switch {
	case x.done || x.back && len(x.changes) == 0:
		y.write(x, plain(api.REnd, 0, 0, 0))
		y.runs[x.txn] = "over"
	case x.back:
		y.takeBack(x)
	default:
		y.runOn(x)
	}
}

func (y *yard) runOn(x *runner) {
	switch y.rnd.Intn(10) {
	case 0:
		y.write(x, plain(api.RSave, 0, 0, 0))
	case 1:
		y.write(x, plain(api.RCommit, 0, 0, 0))
		x.done = true
		y.runs[x.txn] = "committed"
	case 2:
		y.write(x, plain(api.RAbort, 0, 0, 0))
		x.back = true
	case 3:
		if len(x.changes) > 0 {
			y.takeBack(x)
		}
	default:
		y.write(x, put(0, 0, 0, y.rnd.Intn(12)))
		x.changes = append(x.changes, y.lsn)
	}
}

// takeBack takes the last change back that isn't.
func (y *yard) takeBack(x *runner) {
	x.changes = x.changes[:len(x.changes)-1]
	next := uint64(0)
	if len(x.changes) > 0 {
		next = x.changes[len(x.changes)-1]
	}
	y.write(x, back(0, 0, 0, next, y.rnd.Intn(12)))
}

// checkpoint begins one, or makes it whole.
func (y *yard) checkpoint() {
	if y.begun == 0 {
		y.kept = byWords(Table{}, y.log)
		y.begun = y.add(begin(0))
		return
	}
	y.add(check(0, y.begun, y.kept))
	y.begun = 0
}

// withCheckpoint is the log with an RBegin behind its first i records, and an
// RCheck behind its first j.
func (y *yard) withCheckpoint(i, j int, x Table) []api.Record {
	at := uint64(i*apart + 1)
	r := Check(x, at)
	r.LSN = uint64(j*apart + 2)
	l := slices.Insert(clone(y.log), j, r)
	return slices.Insert(l, i, begin(at))
}

// withTwoCheckpoints is the log with two of them: the places of each one's
// RBegin and RCheck.
func (y *yard) withTwoCheckpoints(at [2][2]int) []api.Record {
	l := clone(y.log)
	for i, p := range at {
		first := uint64(p[0]*apart + 1 + 3*i)
		r := Check(byWords(Table{}, y.log[:p[0]]), first)
		r.LSN = uint64(p[1]*apart + 2 + 3*i)
		l = append(l, begin(first), r)
	}
	slices.SortFunc(l, func(a, b api.Record) int { return int(a.LSN) - int(b.LSN) })
	return l
}

// P16.4.
func TestLosersOfANode(t *testing.T) {
	seen := 0
	for seed := range int64(60) {
		y := newYard(seed, seed%2 == 0)
		for range 120 {
			y.step()
			x, errno := Of(y.log)
			if errno != ok {
				t.Fatalf("Of: %d", errno)
			}
			var got, want []int
			for _, r := range Losers(x) {
				got = append(got, r.Txn)
			}
			for txn := 1; txn <= y.txns; txn++ {
				if y.runs[txn] == "" && y.written[txn] {
					want = append(want, txn)
				}
			}
			if !slices.Equal(got, want) {
				t.Fatalf("the losers of %v: %v, not %v", y.log, got, want)
			}
			seen += len(want)
			y.holdsNext(t, x)
		}
	}
	if seen < 1000 {
		t.Errorf("only %d losers were seen", seen)
	}
}

// holdsNext: a loser's Last is that of the log, and its Next what layer 15
// tells is to be taken back next.
func (y *yard) holdsNext(t *testing.T, x Table) {
	t.Helper()
	for _, r := range Losers(x) {
		if last := txn.Last(y.log, r.Txn); r.Last != last {
			t.Fatalf("the Last of %v: not %d", r, last)
		}
		if next, errno := txn.Next(y.log, r.Last); errno != ok || r.Next != next {
			t.Fatalf("the Next of %v: not %d, %d", r, next, errno)
		}
	}
}

// R1: a long log, and many rows.
func TestLongLog(t *testing.T) {
	const n = 1 << 14
	var l []api.Record
	for i := range n {
		l = append(l, put(uint64(i+1), n-i, 0, i%api.MaxPages))
	}
	x, errno := Of(l)
	if errno != ok || len(x.Txns) != n || len(x.Dirty) != api.MaxPages {
		t.Fatalf("Of: %d rows, %d pages, %d", len(x.Txns), len(x.Dirty), errno)
	}
	for i, r := range x.Txns {
		if lsn := uint64(n - i); r != row(i+1, api.Running, lsn, lsn, lsn) {
			t.Fatalf("Of: the row %d is %v", i, r)
		}
	}
	var ends []api.Record
	for i := range n {
		ends = append(ends, plain(api.REnd, uint64(n+i+1), i+1, 0))
	}
	wantMore(t, x, ends, Table{Dirty: x.Dirty})
	var checks []api.Record
	for i := range 1 << 16 {
		checks = append(checks, check(uint64(i+2), uint64(i+1), Table{}))
	}
	wantOf(t, checks, Table{})
}

// R3, R6.

// told is all that the calls answer of a table and a log, as a text.
func told(x Table, l []api.Record) string {
	of, errno := Of(l)
	more, errno2 := More(x, l)
	return fmt.Sprint(of, errno, more, errno2, Losers(x), Losers(of), Check(x, 3), Check(more, 0))
}

// What goes in stays, and what lies behind its length is neither read nor
// written.
func TestArgumentsStay(t *testing.T) {
	cases := []noLog{{"none", nil}, {"example", example()}, {"mixed", mixed()}}
	cases = append(cases, noLogs()...)
	for i, c := range append(tables(), badTables()...) {
		l := cases[i%len(cases)].l
		if i%3 == 0 {
			l = []api.Record{put(100, 1, 0, 0), plain(api.REnd, 101, 2, 0), put(102, 3, 0, 2)}
		}
		want := told(cloneTable(c.t), clone(l))
		tail := []api.Record{plain(api.REnd, 900, 1, 1), check(901, 900, other()), put(3, 4, 0, 31)}
		behind, beyond := rows(row(1, 1, 1, 1, 1), row(0, 0, 0, 0, 0)), pages(dirty(0, 1), dirty(-1, 0))
		x := Table{append(slices.Clone(c.t.Txns), behind...), append(slices.Clone(c.t.Dirty), beyond...)}
		short := Table{x.Txns[:len(c.t.Txns)], x.Dirty[:len(c.t.Dirty)]}
		long := append(clone(l), tail...)
		if got := told(short, long[:len(l)]); got != want {
			t.Errorf("%s: what lies behind is read", c.name)
		}
		if !same(short, c.t) || !sameLog(long[:len(l)], l) {
			t.Errorf("%s: became %v, %v", c.name, short, long[:len(l)])
		}
		if !slices.Equal(x.Txns[len(c.t.Txns):], behind) || !slices.Equal(x.Dirty[len(c.t.Dirty):], beyond) || !sameLog(long[len(l):], tail) {
			t.Errorf("%s: what lies behind was written", c.name)
		}
	}
}

// The rows of an RCheck that a log is begun with stay, too, and what lies
// behind them.
func TestCheckpointRowsStay(t *testing.T) {
	x := some()
	r := check(12, 10, Table{x.Txns[:2], x.Dirty[:2]})
	l := []api.Record{begin(10), r, put(13, 2, 6, 1), put(14, 3, 0, 2), plain(api.REnd, 15, 4, 9), put(16, 9, 0, 30)}
	got, errno := Of(l)
	if errno != ok || len(got.Txns) != 3 || len(got.Dirty) != 4 {
		t.Errorf("Of: %v, %d", got, errno)
	}
	if !same(x, some()) {
		t.Errorf("the RCheck's rows became %v", x)
	}
}

// scrawl writes over all of a table that was told, and behind it.
func scrawl(x Table) {
	for i := range x.Txns {
		x.Txns[i] = row(77, 7, 7, 7, 7)
	}
	for i := range x.Dirty {
		x.Dirty[i] = dirty(77, 77)
	}
	_ = append(x.Txns, row(78, 7, 7, 7, 7))
	_ = append(x.Dirty, dirty(78, 78))
}

func TestAnswersAreNewMemory(t *testing.T) {
	x := some()
	behind := cloneTable(x)
	x.Txns, x.Dirty = x.Txns[:2], x.Dirty[:2]
	l := []api.Record{begin(10), check(12, 10, x), plain(api.RSave, 13, 2, 0)}
	for name, call := range map[string]func() Table{
		"More by nothing": func() Table { m, _ := More(x, nil); return m },
		"More":            func() Table { m, _ := More(x, l); return m },
		"Of":              func() Table { m, _ := Of(l); return m },
		"Of two":          func() Table { m, _ := Of(l[:2]); return m },
		"Losers":          func() Table { return Table{Txns: Losers(x)} },
		"Check":           func() Table { r := Check(x, 4); return Table{r.Txns, r.Dirty} },
	} {
		want, again := cloneTable(call()), call()
		scrawl(call())
		if !same(again, want) || !same(call(), want) {
			t.Errorf("%s: two answers share memory", name)
		}
		if whole := (Table{x.Txns[:3], x.Dirty[:3]}); !same(whole, behind) {
			t.Errorf("%s: an answer shares the argument's memory: %v", name, whole)
		}
		if !record.Same(l[1], check(12, 10, x)) {
			t.Errorf("%s: an answer shares the log's memory", name)
		}
	}
}

// What was told stays, whatever becomes of what it was told of.
func TestAnswersStay(t *testing.T) {
	x, l := some(), mixed()
	for i := range l {
		l[i].LSN += 10
	}
	more, _ := More(x, l)
	of, _ := Of(l)
	losers, r := Losers(x), Check(x, 4)
	wantedMore, wantedOf := byWords(x, l), ofByWords(l)
	for i := range l {
		scrawl(Table{l[i].Txns, l[i].Dirty})
		l[i] = begin(uint64(i) + 1)
	}
	scrawl(x)
	if !same(more, wantedMore) || !same(of, wantedOf) || !slices.Equal(losers, some().Txns[:2]) || !record.Same(r, check(0, 4, some())) {
		t.Error("an answer changed with what it was told of")
	}
}

// R6: the same again, whatever was asked ahead.
func TestSameAnswersAgain(t *testing.T) {
	want := told(some(), mixed())
	for _, c := range tables() {
		told(c.t, example())
	}
	for _, c := range badTables() {
		told(c.t, mixed())
	}
	if got := told(some(), mixed()); got != want {
		t.Errorf("told otherwise: %s, not %s", got, want)
	}
}

// R4: lists that are nil or empty are alike.
func TestNilAndEmpty(t *testing.T) {
	bare, full := Table{}, Table{[]api.TxnRow{}, []api.DirtyRow{}}
	with := func(x Table) []api.Record {
		l := []api.Record{begin(1), check(2, 1, x), put(3, 1, 0, 0)}
		for i := range l {
			l[i].Txns, l[i].Dirty = x.Txns, x.Dirty
		}
		return l
	}
	if told(bare, with(bare)) != told(full, with(full)) {
		t.Error("rows that are empty aren't as those that are nil")
	}
	if told(bare, nil) != told(full, []api.Record{}) {
		t.Error("no records aren't as nil")
	}
}
