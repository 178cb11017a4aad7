package undo

import (
	"fmt"
	"math"
	"math/rand"
	"slices"
	"strings"
	"testing"

	"quayside/analyse"
	"quayside/api"
	"quayside/change"
	"quayside/record"
	"quayside/txn"
)

const (
	ok   = api.OK
	arg  = api.ErrArg
	form = api.ErrForm
	full = api.ErrFull

	top = math.MaxUint64
)

func insert(page, slot int, value string) api.Change {
	return api.Change{Kind: api.Insert, Page: page, Slot: slot, New: value}
}

func update(page, slot int, old, value string) api.Change {
	return api.Change{Kind: api.Update, Page: page, Slot: slot, Old: old, New: value}
}

func remove(page, slot int, old string) api.Change {
	return api.Change{Kind: api.Delete, Page: page, Slot: slot, Old: old}
}

// put is an RUpdate, back an RClr.
func put(lsn uint64, txn int, prev uint64, c api.Change) api.Record {
	return api.Record{Kind: api.RUpdate, LSN: lsn, Txn: txn, Prev: prev, Change: c}
}

func back(lsn uint64, txn int, prev, next uint64, c api.Change) api.Record {
	return api.Record{Kind: api.RClr, LSN: lsn, Txn: txn, Prev: prev, Next: next, Change: c}
}

func plain(kind int, lsn uint64, txn int, prev uint64) api.Record {
	r := api.Record{Kind: kind, LSN: lsn, Txn: txn, Prev: prev}
	if kind == api.RSave {
		r.Save = 1
	}
	return r
}

func commit(lsn uint64, txn int, prev uint64) api.Record { return plain(api.RCommit, lsn, txn, prev) }
func abort(lsn uint64, txn int, prev uint64) api.Record  { return plain(api.RAbort, lsn, txn, prev) }
func end(lsn uint64, txn int, prev uint64) api.Record    { return plain(api.REnd, lsn, txn, prev) }
func save(lsn uint64, txn int, prev uint64) api.Record   { return plain(api.RSave, lsn, txn, prev) }

func begin(lsn uint64) api.Record { return api.Record{Kind: api.RBegin, LSN: lsn} }

func check(lsn, begin uint64, rows ...api.TxnRow) api.Record {
	return api.Record{Kind: api.RCheck, LSN: lsn, Begin: begin, Txns: rows}
}

func running(txn int, first, last, next uint64) api.TxnRow {
	return api.TxnRow{Txn: txn, State: api.Running, First: first, Last: last, Next: next}
}

func in(state int, r api.TxnRow) api.TxnRow {
	r.State = state
	return r
}

func records(l ...api.Record) []api.Record { return l }

func logs(l ...[]api.Record) [][]api.Record { return l }

func noLogs(n int) [][]api.Record { return make([][]api.Record, n) }

// cells is a page with values in its first slots; a slot with no value is unused.
func cells(lsn uint64, values ...string) api.Page {
	p := api.Page{LSN: lsn}
	for slot, v := range values {
		if v != "" {
			p.Cells[slot] = api.Cell{Used: true, Value: v}
		}
	}
	return p
}

// at is a page with a used cell more, the value of which may be empty.
func at(p api.Page, slot int, value string) api.Page {
	p.Cells[slot] = api.Cell{Used: true, Value: value}
	return p
}

func pages(l ...api.Page) []api.Page { return l }

func noPages(n int) []api.Page { return make([]api.Page, n) }

func work(l [][]api.Record, p ...api.Page) api.Work { return api.Work{Logs: l, Pages: p} }

func on(node int, r api.Record) api.Stamped { return api.Stamped{Node: node, Record: r} }

func clone(l []api.Record) []api.Record {
	c := slices.Clone(l)
	for i, r := range c {
		c[i].Txns, c[i].Dirty = slices.Clone(r.Txns), slices.Clone(r.Dirty)
	}
	return c
}

func cloneWork(w api.Work) api.Work {
	c := api.Work{Logs: slices.Clone(w.Logs), Pages: slices.Clone(w.Pages)}
	for i, l := range c.Logs {
		c.Logs[i] = clone(l)
	}
	return c
}

func same(a, b []api.Record) bool { return slices.EqualFunc(a, b, record.Same) }

func sameWork(a, b api.Work) bool {
	return slices.EqualFunc(a.Logs, b.Logs, same) && slices.Equal(a.Pages, b.Pages)
}

func none(w api.Work) bool { return len(w.Logs) == 0 && len(w.Pages) == 0 }

// appended is work with a record more, and with a page that is put in where the
// record changes one.
func appended(w api.Work, s api.Stamped, p api.Page) api.Work {
	w = cloneWork(w)
	w.Logs[s.Node] = append(w.Logs[s.Node], s.Record)
	if s.Record.Kind == api.RClr {
		w.Pages[s.Record.Change.Page] = p
	}
	return w
}

func unnumbered(s api.Stamped) api.Stamped {
	s.Record.LSN = 0
	return s
}

func wantPick(t *testing.T, l [][]api.Record, want api.Stamped) {
	t.Helper()
	got, some, errno := Pick(l)
	if errno != ok || !some || got.Node != want.Node || !record.Same(got.Record, want.Record) {
		t.Errorf("Pick(%v): %v, %t, %d, not %v", l, got, some, errno, want)
	}
}

func wantNoPick(t *testing.T, l [][]api.Record) {
	t.Helper()
	refusesPick(t, "nothing is to be done", l, ok)
}

func refusesPick(t *testing.T, name string, l [][]api.Record, want api.Errno) {
	t.Helper()
	got, some, errno := Pick(l)
	if errno != want || some || got.Node != 0 || !record.Same(got.Record, api.Record{}) {
		t.Errorf("Pick(%v), %s: %v, %t, %d, not %d", l, name, got, some, errno, want)
	}
}

func wantStep(t *testing.T, w, want api.Work) {
	t.Helper()
	if got, some, errno := Step(w); errno != ok || !some || !sameWork(got, want) {
		t.Errorf("Step(%v): %v, %t, %d, not %v", w, got, some, errno, want)
	}
}

// wantDone tells whether nothing is to be done.
func wantDone(t *testing.T, w api.Work) {
	t.Helper()
	wantNoPick(t, w.Logs)
	if got, some, errno := Step(w); errno != ok || some || !sameWork(got, w) {
		t.Errorf("Step(%v): %v, %t, %d", w, got, some, errno)
	}
	wantAll(t, w, w, 0)
}

func refusesStep(t *testing.T, name string, w api.Work, want api.Errno) {
	t.Helper()
	if got, some, errno := Step(w); errno != want || some || !none(got) {
		t.Errorf("Step(%v), %s: %v, %t, %d, not %d", w, name, got, some, errno, want)
	}
	refusesAll(t, name, w, want)
}

func wantAll(t *testing.T, w, want api.Work, steps int) {
	t.Helper()
	if got, n, errno := All(w); errno != ok || n != steps || !sameWork(got, want) {
		t.Errorf("All(%v): %v, %d, %d, not %v, %d", w, got, n, errno, want, steps)
	}
}

func refusesAll(t *testing.T, name string, w api.Work, want api.Errno) {
	t.Helper()
	if got, n, errno := All(w); errno != want || n != 0 || !none(got) {
		t.Errorf("All(%v), %s: %v, %d, %d, not %d", w, name, got, n, errno, want)
	}
}

// todo is a record that a restart appends, and what it makes of its page.
type todo struct {
	s api.Stamped
	p api.Page
}

// wantSteps goes from work through all its steps, and from each of these by All
// to the end.
func wantSteps(t *testing.T, w api.Work, steps []todo) {
	t.Helper()
	all := []api.Work{w}
	for i, x := range steps {
		next := appended(all[i], x.s, x.p)
		wantPick(t, all[i].Logs, unnumbered(x.s))
		wantStep(t, all[i], next)
		all = append(all, next)
	}
	end := all[len(all)-1]
	for i, x := range all {
		wantAll(t, x, end, len(all)-1-i)
	}
	wantDone(t, end)
}

// The chapter's example.

func example() api.Work {
	l := logs(
		records(put(3, 1, 0, insert(0, 0, "a"))),
		records(put(5, 1, 0, insert(0, 1, "b")), commit(6, 1, 5)))
	return work(l, cells(5, "a", "b"))
}

func exampleSteps() []todo {
	return []todo{
		{on(0, back(7, 1, 3, 0, remove(0, 0, "a"))), cells(7, "", "b")},
		{on(0, end(8, 1, 7)), api.Page{}},
		{on(1, end(9, 1, 6)), api.Page{}},
	}
}

func TestExample(t *testing.T) {
	wantSteps(t, example(), exampleSteps())
}

// Several nodes.

// several is logs with running, aborting, committed and ended transactions, one
// of them taken back in part, and one that has changed nothing.
func several() api.Work {
	l := logs(
		records(
			put(2, 1, 0, insert(0, 0, "a")),
			put(6, 1, 2, update(0, 0, "a", "b")),
			save(7, 1, 6),
			put(9, 1, 7, insert(1, 0, "x")),
			back(12, 1, 9, 6, remove(1, 0, "x")),
			put(13, 2, 0, insert(1, 1, "y")),
			commit(14, 2, 13),
			end(15, 2, 14)),
		records(
			put(3, 1, 0, insert(2, 0, "k")),
			put(6, 1, 3, insert(2, 1, "l")),
			abort(8, 1, 6),
			back(10, 1, 8, 3, remove(2, 1, "l")),
			put(11, 5, 0, insert(2, 2, "m")),
			commit(16, 5, 11),
			put(17, 7, 0, insert(2, 3, "n"))),
		nil,
		records(
			save(4, 2, 0),
			put(5, 3, 0, insert(3, 0, "p")),
			commit(6, 3, 5),
			end(7, 3, 6),
			put(18, 9, 0, remove(3, 0, "p"))))
	return work(l, cells(6, "b"), cells(13, "", "y"), cells(17, "k", "", "m", "n"), cells(18))
}

func severalSteps() []todo {
	return []todo{
		{on(3, back(19, 9, 18, 0, insert(3, 0, "p"))), cells(19, "p")},
		{on(1, back(20, 7, 17, 0, remove(2, 3, "n"))), cells(20, "k", "", "m")},
		{on(0, back(21, 1, 12, 2, update(0, 0, "b", "a"))), cells(21, "a")},
		{on(1, back(22, 1, 10, 0, remove(2, 0, "k"))), cells(22, "", "", "m")},
		{on(0, back(23, 1, 21, 0, remove(0, 0, "a"))), cells(23)},
		{on(0, end(24, 1, 23)), api.Page{}},
		{on(1, end(25, 1, 22)), api.Page{}},
		{on(1, end(26, 5, 16)), api.Page{}},
		{on(1, end(27, 7, 20)), api.Page{}},
		{on(3, end(28, 2, 4)), api.Page{}},
		{on(3, end(29, 9, 19)), api.Page{}},
	}
}

func TestSeveral(t *testing.T) {
	wantSteps(t, several(), severalSteps())
}

// One transaction, in each state that it can come to.
func TestOneTransaction(t *testing.T) {
	l := records(
		put(2, 4, 0, insert(0, 0, "a")),
		put(3, 4, 2, update(0, 0, "a", "b")),
		save(4, 4, 3),
		put(5, 4, 4, remove(0, 0, "b")),
		back(6, 4, 5, 3, insert(0, 0, "b")),
		put(7, 4, 6, update(0, 0, "b", "c")),
		abort(8, 4, 7),
		back(9, 4, 8, 3, update(0, 0, "c", "b")),
		back(10, 4, 9, 2, update(0, 0, "b", "a")),
		back(11, 4, 10, 0, remove(0, 0, "a")),
		end(12, 4, 11))
	was := pages(cells(0), cells(2, "a"), cells(3, "b"), cells(3, "b"), cells(5), cells(6, "b"), cells(7, "c"),
		cells(7, "c"), cells(9, "b"), cells(10, "a"), cells(11), cells(11))
	// What is to be taken back is changed by layer 5 alone, in this order.
	plans := [][]api.Change{
		{},
		{remove(0, 0, "a")},
		{update(0, 0, "b", "a"), remove(0, 0, "a")},
		{update(0, 0, "b", "a"), remove(0, 0, "a")},
		{insert(0, 0, "b"), update(0, 0, "b", "a"), remove(0, 0, "a")},
		{update(0, 0, "b", "a"), remove(0, 0, "a")},
		{update(0, 0, "c", "b"), update(0, 0, "b", "a"), remove(0, 0, "a")},
		{update(0, 0, "c", "b"), update(0, 0, "b", "a"), remove(0, 0, "a")},
		{update(0, 0, "b", "a"), remove(0, 0, "a")},
		{remove(0, 0, "a")},
		{},
	}
	for n := range l {
		got, steps, errno := All(work(logs(l[:n]), was[n]))
		want := plans[n]
		if errno != ok || got.Pages[0].Cells != (api.Page{}).Cells {
			t.Errorf("All of the first %d: %v, %d", n, got, errno)
			continue
		}
		if n == 0 {
			wantAll(t, work(logs(nil), was[0]), work(logs(nil), was[0]), 0)
			continue
		}
		rest := got.Logs[0][n:]
		if steps != len(want)+1 || len(rest) != steps || rest[len(want)].Kind != api.REnd {
			t.Errorf("All of the first %d: %v, %d", n, rest, steps)
			continue
		}
		for i, c := range want {
			if rest[i].Kind != api.RClr || rest[i].Change != c || rest[i].LSN != uint64(n+2+i) || rest[i].Prev != uint64(n+1+i) {
				t.Errorf("All of the first %d: %v at %d, not %v", n, rest[i], i, c)
			}
		}
	}
	wantDone(t, work(logs(l), was[11]))
}

// P19.1.

func TestPickOfNothing(t *testing.T) {
	wantNoPick(t, nil)
	wantNoPick(t, logs())
	for n := range api.MaxNodes + 1 {
		l := noLogs(n)
		wantNoPick(t, l)
		for i := range l {
			l[i] = records()
		}
		wantNoPick(t, l)
		for i := range l {
			l[i] = ended(uint64(5 + i))
		}
		wantNoPick(t, l)
	}
}

// ended is a log of which no transaction isn't over.
func ended(lsn uint64) []api.Record {
	return records(begin(lsn), put(lsn+1, 1, 0, insert(0, 0, "a")), commit(lsn+2, 1, lsn+1), end(lsn+3, 1, lsn+2), check(lsn+4, lsn), end(lsn+5, 2, 0))
}

// Of one loser alone, on each node, among logs that are empty or all of which is over.
func TestPickOnEachNode(t *testing.T) {
	for node := range api.MaxNodes {
		for n := node + 1; n <= api.MaxNodes; n++ {
			l := noLogs(n)
			l[node] = records(put(3, 6, 0, insert(4, 5, "a")), save(4, 6, 3))
			wantPick(t, l, on(node, back(0, 6, 4, 0, remove(4, 5, "a"))))
			for i := range l {
				if i != node {
					l[i] = ended(50)
				}
			}
			wantPick(t, l, on(node, back(0, 6, 4, 0, remove(4, 5, "a"))))
			l[node] = records(save(4, 6, 0))
			wantPick(t, l, on(node, end(0, 6, 4)))
			l[node] = records(put(3, 6, 0, insert(4, 5, "a")), commit(5, 6, 3))
			wantPick(t, l, on(node, end(0, 6, 5)))
		}
	}
}

// fullLogs are as many logs as there may be, each with a loser.
func fullLogs() [][]api.Record {
	l := noLogs(api.MaxNodes)
	for node := range l {
		l[node] = records(begin(1), put(uint64(10-node), 1, 0, insert(node, 0, "a")))
	}
	return l
}

func TestPickOfMaxNodes(t *testing.T) {
	wantPick(t, fullLogs(), on(0, back(0, 1, 10, 0, remove(0, 0, "a"))))
	for _, more := range logs(nil, records(), records(begin(1)), records(put(50, 1, 0, insert(0, 0, "a")))) {
		refusesPick(t, "nine", append(fullLogs(), more), arg)
		refusesPick(t, "nine", slices.Insert(fullLogs(), 0, more), arg)
	}
	for _, n := range []int{api.MaxNodes + 1, api.MaxNodes + 2, 16, 1 << 16} {
		refusesPick(t, "too many empty ones", noLogs(n), arg)
		refusesStep(t, "too many empty ones", work(noLogs(n)), arg)
	}
}

// fault makes a record such that it isn't right.
type fault struct {
	name string
	make func(*api.Record)
}

func faults() []fault {
	return []fault{
		{"no kind", func(r *api.Record) { r.Kind = 0 }},
		{"a kind below", func(r *api.Record) { r.Kind = -1 }},
		{"a kind above", func(r *api.Record) { r.Kind = api.RCheck + 1 }},
		{"no LSN", func(r *api.Record) { r.LSN = 0 }},
		{"an LSN above", func(r *api.Record) { r.LSN = api.MaxLSN + 1 }},
		{"a Txn below", func(r *api.Record) { r.Txn = -1 }},
		{"a Txn above", func(r *api.Record) { r.Txn = api.MaxTxn + 1 }},
		{"its own Prev", func(r *api.Record) { r.Prev = r.LSN }},
		{"a Next behind it", func(r *api.Record) { r.Next = top }},
		{"a page below", func(r *api.Record) { r.Change.Page = -1 }},
		{"a page above", func(r *api.Record) { r.Change.Page = api.MaxPages }},
		{"a slot above", func(r *api.Record) { r.Change.Slot = api.Slots }},
		{"no kind of change", func(r *api.Record) { r.Change.Kind = 4 }},
		{"a value too long", func(r *api.Record) { r.Change.New = strings.Repeat("x", api.MaxValue+1) }},
		{"a Save above", func(r *api.Record) { r.Save = api.MaxSaves + 1 }},
		{"its own Begin", func(r *api.Record) { r.Begin = r.LSN }},
		{"rows that don't rise", func(r *api.Record) { r.Txns = append(r.Txns, running(1, 1, 1, 0), running(1, 1, 1, 0)) }},
		{"a row of its own LSN", func(r *api.Record) { r.Txns = []api.TxnRow{running(1, 1, r.LSN, 0)} }},
		{"a dirty page above", func(r *api.Record) { r.Dirty = []api.DirtyRow{{Page: api.MaxPages, Rec: 1}} }},
	}
}

// eachKind is a log with all kinds.
func eachKind() []api.Record {
	return records(
		put(2, 1, 0, insert(0, 0, "a")), back(3, 1, 2, 0, remove(0, 0, "a")), commit(5, 1, 3), abort(8, 2, 0), end(9, 2, 8),
		save(10, 3, 0), begin(11), check(13, 11, running(3, 10, 10, 0)))
}

// noLog is records that are none, and why.
type noLog struct {
	name string
	l    []api.Record
}

// badLogs are logs each with one fault, at each place.
func badLogs() []noLog {
	all := []noLog{{"nothing in it", records(api.Record{})}, {"the greatest LSN", records(begin(3), begin(top))}}
	for i := range eachKind() {
		for _, f := range faults() {
			l := eachKind()
			f.make(&l[i])
			all = append(all, noLog{fmt.Sprintf("%s at %d", f.name, i), l})
		}
	}
	for i := range eachKind()[1:] {
		alike, falls, swapped := eachKind(), eachKind(), eachKind()
		alike[i+1] = begin(alike[i].LSN)
		falls[i+1] = begin(falls[i].LSN - 1)
		swapped[i], swapped[i+1] = swapped[i+1], swapped[i]
		all = append(all,
			noLog{fmt.Sprintf("alike at %d", i), alike},
			noLog{fmt.Sprintf("falls at %d", i), falls},
			noLog{fmt.Sprintf("swapped at %d", i), swapped})
	}
	return all
}

func TestNoLogs(t *testing.T) {
	for _, bad := range badLogs() {
		refusesPick(t, bad.name, logs(bad.l), form)
		refusesStep(t, bad.name, work(logs(bad.l), cells(1, "a")), form)
		for node := range several().Logs {
			w := several()
			w.Logs[node] = bad.l
			refusesPick(t, bad.name, w.Logs, form)
			refusesStep(t, bad.name, w, form)
		}
		for node := range api.MaxNodes {
			l := fullLogs()
			l[node] = bad.l
			refusesPick(t, bad.name, l, form)
			l = noLogs(api.MaxNodes)
			l[node] = bad.l
			refusesPick(t, bad.name, l, form)
			refusesStep(t, bad.name, work(l), form)
			l = noLogs(api.MaxNodes + 1)
			l[node] = bad.l
			refusesPick(t, bad.name+", of nine", l, arg)
			refusesStep(t, bad.name+", of nine", work(l), arg)
		}
		l := noLogs(api.MaxNodes + 1)
		l[api.MaxNodes] = bad.l
		refusesPick(t, bad.name+", the ninth", l, arg)
		refusesStep(t, bad.name+", the ninth", work(l), arg)
	}
}

// Tables out of a checkpoint.

// told is a log with records of all kinds that bear no LSN 6, ahead of a
// checkpoint with rows of its own.
func told(rows ...api.TxnRow) []api.Record {
	return records(
		put(2, 1, 0, insert(0, 0, "a")),
		save(3, 1, 2),
		put(4, 1, 3, insert(0, 1, "b")),
		back(5, 1, 4, 2, remove(0, 1, "b")),
		put(7, 2, 0, insert(0, 2, "c")),
		put(8, 2, 7, insert(0, 3, "d")),
		abort(9, 2, 8),
		put(10, 3, 0, insert(0, 4, "e")),
		commit(11, 3, 10),
		end(12, 3, 11),
		begin(13),
		check(14, 13),
		begin(15),
		check(20, 15, rows...))
}

func toldPage() api.Page { return cells(10, "a", "", "c", "d", "e") }

// The changes that the log tells of, and what is to be taken back of their
// transaction then, whichever transaction the row is of.
func TestNextOfAnyChange(t *testing.T) {
	for _, c := range []struct {
		next, then uint64
		change     api.Change
	}{
		{2, 0, remove(0, 0, "a")}, {4, 2, remove(0, 1, "b")}, {7, 0, remove(0, 2, "c")}, {8, 7, remove(0, 3, "d")}, {10, 0, remove(0, 4, "e")},
	} {
		for _, number := range []int{1, 2, 3, 4, api.MaxTxn} {
			for _, last := range []uint64{c.next, 10, 19} {
				for _, state := range []int{api.Running, api.Aborting} {
					if last < c.next {
						continue
					}
					l := logs(told(in(state, running(number, 1, last, c.next))))
					want := back(0, number, last, c.then, c.change)
					wantPick(t, l, on(0, want))
					want.LSN = 21
					p, errno := change.Apply(toldPage(), c.change, 21)
					if errno != ok {
						refusesStep(t, "isn't there any more", work(l, toldPage()), form)
						continue
					}
					wantStep(t, work(l, toldPage()), work(logs(append(l[0], want)), p))
				}
				l := logs(told(in(api.Committed, running(number, 1, last, min(last, c.next)))))
				wantPick(t, l, on(0, end(0, number, last)))
			}
		}
	}
}

// Numbers that are no record's of the log, and those of records of each other
// kind; in the log of another node there is such a change.
func TestNextOfNoChange(t *testing.T) {
	other := records(put(2, 1, 0, insert(0, 0, "a")))
	for n := uint64(3); n < 20; n++ {
		other = append(other, put(n, 1, n-1, update(0, 0, "a", "a")))
	}
	other = append(other, commit(20, 1, 19))
	for _, next := range []uint64{1, 3, 5, 6, 9, 11, 12, 13, 14, 15, 16, 19} {
		for _, number := range []int{1, 2, 3, 4} {
			for _, state := range []int{api.Running, api.Aborting} {
				l := told(in(state, running(number, 1, 19, next)))
				for _, x := range [][][]api.Record{logs(l), logs(other, l), logs(l, other), logs(nil, other, l, other)} {
					refusesPick(t, "no change", x, form)
					refusesStep(t, "no change", work(x, toldPage()), form)
				}
			}
			l := told(in(api.Committed, running(number, 1, 19, next)))
			wantPick(t, logs(l), on(0, end(0, number, 19)))
			wantAll(t, work(logs(l), toldPage()), work(logs(append(l, end(21, number, 19))), toldPage()), 1)
		}
	}
}

// Just the row that is picked is asked about its change.
func TestOtherRowsOfNoChange(t *testing.T) {
	l := logs(told(running(1, 1, 19, 6), running(2, 1, 19, 8)), told(running(1, 1, 19, 7), running(2, 1, 19, 5)))
	wantPick(t, l, on(0, back(0, 2, 19, 7, remove(0, 3, "d"))))
	refusesAll(t, "a later row of no change", work(l, toldPage()), form)
	l[1] = told(running(1, 1, 19, 8), running(2, 1, 19, 9))
	refusesPick(t, "the row that is picked", l, form)
	l[1] = told(running(1, 1, 19, 8), in(api.Committed, running(2, 1, 19, 9)))
	wantPick(t, l, on(1, back(0, 1, 19, 7, remove(0, 3, "d"))))
}

// Of losers of one node the last Next is picked, whatever else they tell; those
// whose Next is 0, and committed ones, stand back.
func TestPickOfOneTable(t *testing.T) {
	wantPick(t, logs(told(running(1, 1, 19, 4), running(2, 1, 18, 8), running(3, 1, 19, 2))), on(0, back(0, 2, 18, 7, remove(0, 3, "d"))))
	wantPick(t, logs(told(running(1, 1, 11, 10), running(2, 1, 18, 8), running(3, 1, 19, 2))), on(0, back(0, 1, 11, 0, remove(0, 4, "e"))))
	wantPick(t, logs(told(running(1, 1, 11, 2), running(2, 1, 18, 4), running(3, 1, 15, 10))), on(0, back(0, 3, 15, 0, remove(0, 4, "e"))))
	wantPick(t, logs(told(running(1, 1, 11, 0), running(2, 1, 18, 2), in(api.Committed, running(3, 1, 15, 10)))), on(0, back(0, 2, 18, 0, remove(0, 0, "a"))))
	wantPick(t, logs(told(running(1, 1, 11, 2), in(api.Aborting, running(2, 1, 18, 4)))), on(0, back(0, 2, 18, 2, remove(0, 1, "b"))))
	// Several of one Next.
	wantPick(t, logs(told(running(1, 1, 11, 4), running(2, 1, 18, 8), running(3, 1, 15, 8))), on(0, back(0, 2, 18, 7, remove(0, 3, "d"))))
	wantPick(t, logs(told(in(api.Committed, running(1, 1, 11, 8)), running(5, 1, 15, 8), running(6, 1, 18, 8), running(7, 1, 19, 8))), on(0, back(0, 5, 15, 7, remove(0, 3, "d"))))
	// No Next: the first row, whichever it is.
	wantPick(t, logs(told(in(api.Committed, running(1, 1, 11, 8)), running(5, 1, 15, 0))), on(0, end(0, 1, 11)))
	wantPick(t, logs(told(running(5, 1, 15, 0), in(api.Committed, running(6, 1, 16, 8)), running(7, 1, 17, 0))), on(0, end(0, 5, 15)))
	wantPick(t, logs(told(in(api.Aborting, running(5, 1, 15, 0)), running(6, 1, 17, 0))), on(0, end(0, 5, 15)))
	wantNoPick(t, logs(told()))
}

// Of losers of several nodes with one Next the highest node's is picked.
func TestPickOfOneNext(t *testing.T) {
	for i := range api.MaxNodes {
		for j := range i {
			l := noLogs(api.MaxNodes)
			l[i] = records(put(7, 1, 0, insert(0, 0, "a")))
			l[j] = records(put(7, 2, 0, insert(1, 0, "b")), save(9, 2, 7), abort(11, 2, 9))
			wantPick(t, l, on(i, back(0, 1, 7, 0, remove(0, 0, "a"))))
			l[i], l[j] = l[j], l[i]
			wantPick(t, l, on(i, back(0, 2, 11, 0, remove(1, 0, "b"))))
			l[i] = told(running(1, 1, 19, 7), running(4, 1, 19, 7))
			wantPick(t, l, on(i, back(0, 1, 19, 0, remove(0, 2, "c"))))
			l[j] = told(running(1, 1, 19, 8), running(4, 1, 18, 8), running(5, 1, 17, 7))
			wantPick(t, l, on(j, back(0, 1, 19, 7, remove(0, 3, "d"))))
			l[j] = told(in(api.Committed, running(1, 1, 19, 8)), running(5, 1, 17, 7))
			wantPick(t, l, on(i, back(0, 1, 19, 0, remove(0, 2, "c"))))
		}
	}
}

// Two rows of one table, and two of two tables, tell of one change: it is taken
// back twice, where the page takes that.
func TestOneChangeTwice(t *testing.T) {
	l := records(put(2, 5, 0, update(0, 0, "a", "a")), begin(3), check(7, 3, running(4, 2, 5, 2), running(5, 2, 6, 2)))
	wantSteps(t, work(logs(l), cells(2, "a")), []todo{
		{on(0, back(8, 4, 5, 0, update(0, 0, "a", "a"))), cells(8, "a")},
		{on(0, back(9, 5, 6, 0, update(0, 0, "a", "a"))), cells(9, "a")},
		{on(0, end(10, 4, 8)), api.Page{}},
		{on(0, end(11, 5, 9)), api.Page{}},
	})
	wantSteps(t, work(logs(l, l), cells(2, "a")), []todo{
		{on(1, back(8, 4, 5, 0, update(0, 0, "a", "a"))), cells(8, "a")},
		{on(1, back(9, 5, 6, 0, update(0, 0, "a", "a"))), cells(9, "a")},
		{on(0, back(10, 4, 5, 0, update(0, 0, "a", "a"))), cells(10, "a")},
		{on(0, back(11, 5, 6, 0, update(0, 0, "a", "a"))), cells(11, "a")},
		{on(0, end(12, 4, 10)), api.Page{}},
		{on(0, end(13, 5, 11)), api.Page{}},
		{on(1, end(14, 4, 8)), api.Page{}},
		{on(1, end(15, 5, 9)), api.Page{}},
	})
	l[0].Change = insert(0, 0, "a")
	refusesAll(t, "taken back twice", work(logs(l), cells(2, "a")), form)
}

// Rows that tell of numbers behind their RBegin: records there are taken in,
// and the numbers of the row fall.
func TestRowsAheadOfTheirTime(t *testing.T) {
	l := records(put(2, 1, 0, insert(0, 0, "a")), begin(3), save(4, 1, 2), check(9, 3, running(1, 7, 8, 2), running(2, 6, 6, 0)))
	wantSteps(t, work(logs(l), cells(2, "a")), []todo{
		{on(0, back(10, 1, 4, 0, remove(0, 0, "a"))), cells(10)},
		{on(0, end(11, 1, 10)), api.Page{}},
		{on(0, end(12, 2, 6)), api.Page{}},
	})
}

// The lowest node with a row, and its first row, where nothing is to be taken
// back: the Txns of the rows, and their numbers, play no part.
func TestEndsInOrder(t *testing.T) {
	l := logs(nil,
		records(save(5, 8, 0), commit(6, 3, 0), abort(7, 9, 0), end(9, 9, 7)),
		records(begin(1)),
		records(save(2, 1, 0), put(3, 2, 0, insert(0, 0, "a")), commit(4, 2, 3)))
	wantSteps(t, work(l, cells(3, "a")), []todo{
		{on(1, end(10, 3, 6)), api.Page{}},
		{on(1, end(11, 8, 5)), api.Page{}},
		{on(3, end(12, 1, 2)), api.Page{}},
		{on(3, end(13, 2, 4)), api.Page{}},
	})
}

// Committed rows alone, on each node.
func TestCommittedAlone(t *testing.T) {
	w := work(noLogs(api.MaxNodes), noPages(api.MaxNodes)...)
	var steps []todo
	for node := range api.MaxNodes {
		w.Logs[node] = records(put(3, 1, 0, insert(node, 0, "a")), put(5, 2, 0, insert(node, 1, "b")), commit(6, 2, 5), commit(7, 1, 3))
		w.Pages[node] = cells(5, "a", "b")
		lsn := uint64(8 + 2*node)
		steps = append(steps, todo{on(node, end(lsn, 1, 7)), api.Page{}}, todo{on(node, end(lsn+1, 2, 6)), api.Page{}})
	}
	wantSteps(t, w, steps)
}

// P19.2.

// Nothing is to be done: pages of any number stay, also those that no record
// could be above.
func TestDone(t *testing.T) {
	wantDone(t, api.Work{})
	wantDone(t, work(logs()))
	for n := range api.MaxPages + 1 {
		p := noPages(n)
		for i := range p {
			p[i] = cells(uint64(i)*7, "x")
		}
		wantDone(t, work(nil, p...))
		wantDone(t, work(logs(nil, ended(5), records()), p...))
		if n > 0 {
			p[n-1].LSN = api.MaxLSN
			wantDone(t, work(logs(nil, ended(5), records()), p...))
			wantDone(t, work(logs(ended(api.MaxLSN-5)), p...))
		}
	}
	for n := range api.MaxNodes + 1 {
		wantDone(t, work(noLogs(n), cells(3)))
	}
}

func TestMaxPages(t *testing.T) {
	for id := range api.MaxPages {
		l := logs(records(put(3, 1, 0, insert(id, id%api.Slots, "a"))))
		for n := range api.MaxPages + 1 {
			p := noPages(n)
			if id >= n {
				refusesStep(t, "no such page", work(l, p...), form)
				continue
			}
			p[id] = at(cells(3), id%api.Slots, "a")
			want := noPages(n)
			want[id] = cells(4)
			wantStep(t, work(l, p...), work(logs(append(l[0], back(4, 1, 3, 0, remove(id, id%api.Slots, "a")))), want...))
		}
		for _, n := range []int{api.MaxPages + 1, 64, 1 << 16} {
			p := noPages(n)
			p[id] = at(cells(3), id%api.Slots, "a")
			refusesStep(t, "too many pages", work(l, p...), arg)
		}
	}
	for _, n := range []int{api.MaxPages + 1, api.MaxPages + 2, 1 << 16} {
		refusesStep(t, "too many pages", work(nil, noPages(n)...), arg)
		refusesStep(t, "too many pages", work(logs(ended(5)), noPages(n)...), arg)
		refusesStep(t, "too many pages, and no logs", work(logs(records(begin(0))), noPages(n)...), arg)
		refusesStep(t, "too many pages and logs", work(noLogs(api.MaxNodes+1), noPages(n)...), arg)
		refusesStep(t, "too many pages, and no number", work(logs(records(save(api.MaxLSN, 1, 0))), noPages(n)...), arg)
	}
}

// badPages are such as can't be.
func badPages() []api.Page {
	long := strings.Repeat("x", api.MaxValue+1)
	all := pages(cells(api.MaxLSN+1), cells(top))
	for slot := range api.Slots {
		unused := cells(3)
		unused.Cells[slot].Value = "a"
		all = append(all, at(cells(3), slot, long), unused)
	}
	return all
}

// ErrArg goes ahead of each error of the logs, and of the page's.
func TestBadPages(t *testing.T) {
	loser := records(put(3, 1, 0, insert(0, 0, "a")))
	for _, bad := range badPages() {
		for id := range api.MaxPages {
			p := noPages(api.MaxPages)
			p[0], p[id] = cells(3, "a"), bad
			for _, l := range [][][]api.Record{
				nil, logs(ended(5)), logs(loser), logs(records(begin(0))), logs(told(running(1, 1, 19, 6))),
				logs(records(save(api.MaxLSN, 1, 0))), noLogs(api.MaxNodes + 1),
			} {
				refusesStep(t, fmt.Sprintf("a bad page at %d", id), work(l, p...), arg)
				refusesStep(t, fmt.Sprintf("a bad page last, at %d", id), work(l, p[:id+1]...), arg)
				refusesStep(t, "a bad page first", work(l, p[id:]...), arg)
			}
		}
	}
	for _, bad := range badLogs() {
		refusesStep(t, bad.name, work(logs(bad.l), cells(1), badPages()[3]), arg)
	}
}

// The greatest number of all, in each log, and in each page.
func TestNumberAboveAll(t *testing.T) {
	const nodes, n = 3, 4
	for _, most := range []uint64{20, 21, 1000, api.TopLSN - 1, api.TopLSN, api.TopLSN + 1, api.MaxLSN - 1} {
		for node := range nodes {
			w := several()
			w.Logs[node] = append(w.Logs[node], begin(most))
			wantNumber(t, w, most+1)
		}
		for id := range n {
			w := several()
			w.Pages = append(w.Pages, cells(7))
			w.Pages[id+1].LSN = most
			wantNumber(t, w, most+1)
		}
		w := several()
		w.Logs[2], w.Pages[1].LSN = records(begin(most)), most
		wantNumber(t, w, most+1)
		w.Logs[1], w.Pages[0].LSN = append(w.Logs[1], begin(most-1)), most-1
		wantNumber(t, w, most+1)
	}
	// A log's last number alone counts, not its greatest Txn, Prev or row.
	wantNumber(t, work(logs(records(save(5, api.MaxTxn, 4)), told(running(1, 1, 19, 2))), cells(1, "a")), 21)
}

// wantNumber tells which number the next record gets.
func wantNumber(t *testing.T, w api.Work, want uint64) {
	t.Helper()
	s, some, errno := Pick(w.Logs)
	got, more, errno2 := Step(w)
	if errno != ok || errno2 != ok || !some || !more {
		t.Errorf("Step(%v): %d, %d", w, errno, errno2)
		return
	}
	s.Record.LSN = want
	for node, l := range got.Logs {
		was := w.Logs[node]
		if node == s.Node {
			was = append(clone(was), s.Record)
		}
		if !same(l, was) {
			t.Errorf("Step(%v): log %d is %v, not %v", w, node, l, was)
		}
	}
	for id, p := range got.Pages {
		if s.Record.Kind == api.RClr && s.Record.Change.Page == id {
			if p.LSN != want {
				t.Errorf("Step(%v): the page has %d, not %d", w, p.LSN, want)
			}
			continue
		}
		if p != w.Pages[id] {
			t.Errorf("Step(%v): the page %d is %v", w, id, p)
		}
	}
}

// No number is left: whatever the record is, and wherever the last number is.
func TestNoNumberLeft(t *testing.T) {
	last := api.MaxLSN
	open := records(put(2, 1, 0, insert(0, 0, "a")), put(3, 1, 2, insert(0, 1, "b")))
	for _, own := range [][]api.Record{open, append(clone(open), commit(5, 1, 3)), records(save(4, 1, 0))} {
		for node := range api.MaxNodes {
			l := noLogs(api.MaxNodes)
			l[3] = own
			l[node] = append(clone(l[node]), begin(last))
			refusesStep(t, "no number left", work(l, cells(3, "a", "b")), full)
			if _, some, errno := Pick(l); errno != ok || !some {
				t.Errorf("Pick(%v): %t, %d", l, some, errno)
			}
		}
		for id := range api.MaxPages {
			p := noPages(api.MaxPages)
			p[0] = cells(3, "a", "b")
			p[id].LSN = last
			refusesStep(t, "no number left", work(logs(own), p...), full)
		}
		// It is told ahead of what is wrong with the page.
		refusesStep(t, "no number left, no page", work(logs(append(clone(own), begin(last)))), full)
		refusesStep(t, "no number left, no cell", work(logs(append(clone(own), begin(last))), cells(0)), full)
		refusesStep(t, "no number left, no cell", work(logs(own), cells(last)), full)
	}
	refusesStep(t, "no number left, and no log", work(logs(open, records(begin(0))), cells(last, "a", "b")), form)
	refusesStep(t, "no number left, and no change", work(logs(told(running(1, 1, 19, 6))), cells(last)), form)
}

// The last numbers: as many steps as there are numbers.
func TestLastNumbers(t *testing.T) {
	for left := range uint64(12) {
		w := several()
		w.Logs[2] = records(begin(api.MaxLSN - left))
		steps := uint64(len(severalSteps()))
		if left < steps {
			refusesAll(t, "no number left", w, full)
		} else if got, n, errno := All(w); errno != ok || n != len(severalSteps()) || got.Logs[3][7].LSN != api.MaxLSN-left+steps {
			t.Errorf("All(%v): %v, %d, %d", w, got, n, errno)
		}
		for range min(left, steps) {
			next, some, errno := Step(w)
			if errno != ok || !some {
				t.Fatalf("Step(%v): %t, %d", w, some, errno)
			}
			w = next
		}
		if left < steps {
			refusesStep(t, "no number left", w, full)
		} else {
			wantDone(t, w)
		}
	}
}

// A page that there isn't, and cells that the RClr doesn't fit.
func TestRefusedByThePage(t *testing.T) {
	for _, c := range []struct {
		name string
		c    api.Change
		bad  []api.Page
	}{
		{"an insert", insert(1, 2, "a"), pages(cells(3), cells(3, "a", "a"), cells(3, "", "", "b"), cells(3, "", "", "aa"), at(cells(3), 2, ""))},
		{"an insert of nothing", insert(1, 2, ""), pages(cells(3), cells(3, "", "", "a"))},
		{"a delete", remove(1, 2, "a"), pages(cells(3, "", "", "a"), cells(3, "", "", "b"), at(cells(3), 2, ""))},
		{"an update", update(1, 2, "a", "b"), pages(cells(3), cells(3, "", "", "a"), cells(3, "", "", "bb"), at(cells(3), 2, ""))},
	} {
		l := logs(nil, records(put(3, 1, 0, c.c)), nil)
		for _, p := range c.bad {
			refusesStep(t, c.name, work(l, cells(0), p), form)
			refusesStep(t, c.name, work(l, cells(0), p, cells(9)), form)
		}
		good := cells(3, "", "", "a")
		refusesStep(t, c.name+", no such page", work(l, good), form)
		refusesStep(t, c.name+", no pages", work(l), form)
	}
}

// The page's number ahead plays no part: it is below the record's anyhow.
func TestPagesOfAnyAge(t *testing.T) {
	for _, n := range []uint64{0, 1, 2, 3, 4, 50} {
		next := max(n, 3) + 1
		w := work(logs(records(put(3, 1, 0, insert(0, 0, "a")))), cells(n, "a", "b"))
		wantSteps(t, w, []todo{
			{on(0, back(next, 1, 3, 0, remove(0, 0, "a"))), cells(next, "", "b")},
			{on(0, end(next+1, 1, next)), api.Page{}},
		})
	}
}

// P19.3.

// Errors at a first step, and at each later one: no work, and no number of steps.
func TestAllRefused(t *testing.T) {
	// The more changes there are, the later comes the one that is refused.
	for n := range 8 {
		l := records(put(2, 1, 0, insert(1, 0, "a")))
		p := cells(uint64(n+2), "a")
		for i := range n {
			l = append(l, put(uint64(3+i), 1, uint64(2+i), insert(0, i, "b")))
			p.Cells[i] = api.Cell{Used: true, Value: "b"}
		}
		w := work(logs(nil, l), p)
		for range n {
			refusesAll(t, "no such page", w, form)
			refusesAll(t, "no such cell", api.Work{Logs: w.Logs, Pages: append(slices.Clone(w.Pages), cells(2, "b"))}, form)
			next, some, errno := Step(w)
			if errno != ok || !some {
				t.Fatalf("Step(%v): %t, %d", w, some, errno)
			}
			w = next
		}
		refusesStep(t, "no such page", w, form)
		refusesStep(t, "no such cell", work(w.Logs, w.Pages[0], cells(2, "b")), form)
	}
}

// P19.3, P19.4, by the words.

// toBackByWords is the row that is to be taken back next: the losers of all
// tables are gone through from the last Next down, those of a Next from the
// highest node down.
func toBackByWords(tables []analyse.Table) (int, api.TxnRow, bool) {
	var nexts []uint64
	for _, t := range tables {
		for _, r := range analyse.Losers(t) {
			nexts = append(nexts, r.Next)
		}
	}
	slices.Sort(nexts)
	for _, next := range slices.Backward(nexts) {
		for node := len(tables) - 1; node >= 0 && next > 0; node-- {
			for _, r := range analyse.Losers(tables[node]) {
				if r.Next == next {
					return node, r, true
				}
			}
		}
	}
	return 0, api.TxnRow{}, false
}

func pickByWords(l [][]api.Record) (api.Stamped, bool, api.Errno) {
	var tables []analyse.Table
	for _, x := range l {
		t, errno := analyse.Of(x)
		if errno != ok {
			return api.Stamped{}, false, form
		}
		tables = append(tables, t)
	}
	if node, r, some := toBackByWords(tables); some {
		made, found := txn.Get(l[node], r.Next)
		if !found || made.Kind != api.RUpdate {
			return api.Stamped{}, false, form
		}
		c, _ := change.Inverse(made.Change)
		then, _ := txn.Next(l[node], made.Prev)
		return on(node, back(0, r.Txn, r.Last, then, c)), true, ok
	}
	for node, t := range tables {
		for _, r := range t.Txns {
			return on(node, end(0, r.Txn, r.Last)), true, ok
		}
	}
	return api.Stamped{}, false, ok
}

func stepByWords(w api.Work) (api.Work, bool, api.Errno) {
	s, some, errno := pickByWords(w.Logs)
	if errno != ok {
		return api.Work{}, false, errno
	}
	w = cloneWork(w)
	if !some {
		return w, false, ok
	}
	for _, l := range w.Logs {
		for _, r := range l {
			s.Record.LSN = max(s.Record.LSN, r.LSN)
		}
	}
	for _, p := range w.Pages {
		s.Record.LSN = max(s.Record.LSN, p.LSN)
	}
	s.Record.LSN++
	if s.Record.LSN > api.MaxLSN {
		return api.Work{}, false, full
	}
	if c := s.Record.Change; c.Kind != 0 {
		if c.Page >= len(w.Pages) {
			return api.Work{}, false, form
		}
		p := &w.Pages[c.Page]
		was := api.Cell{Used: c.Kind != api.Insert, Value: c.Old}
		if p.Cells[c.Slot] != was {
			return api.Work{}, false, form
		}
		p.Cells[c.Slot] = api.Cell{Used: c.Kind != api.Delete, Value: c.New}
		p.LSN = s.Record.LSN
	}
	w.Logs[s.Node] = append(w.Logs[s.Node], s.Record)
	return w, true, ok
}

// holds holds work, and all that its steps make of it, against the words; it
// tells the error.
func holds(t *testing.T, w api.Work) api.Errno {
	t.Helper()
	first, steps := w, 0
	for {
		s, some, errno := pickByWords(w.Logs)
		switch {
		case errno != ok:
			refusesPick(t, "by the words", w.Logs, errno)
		case some:
			wantPick(t, w.Logs, s)
		default:
			wantNoPick(t, w.Logs)
		}
		next, some, errno := stepByWords(w)
		if errno != ok {
			refusesStep(t, "by the words", w, errno)
			refusesAll(t, "by the words", first, errno)
			return errno
		}
		if !some {
			wantDone(t, w)
			wantAll(t, first, w, steps)
			return ok
		}
		wantStep(t, w, next)
		w = next
		steps++
	}
}

// small are logs of up to so many records, of two transactions that change one
// cell, also with checkpoints that tell what isn't so. Changes of the cell keep
// its value, so that each of them can be taken back at any time.
func small(most int) [][]api.Record {
	keep := update(0, 0, "a", "a")
	of := func(ahead []api.Record, n uint64) []api.Record {
		prev := uint64(0)
		if len(ahead) > 0 {
			prev = n - 2
		}
		all := records(put(n, 1, prev, keep), put(n, 2, 0, keep), back(n, 1, prev, prev, keep), commit(n, 1, prev), abort(n, 2, prev), end(n, 1, prev), save(n, 2, prev), begin(n))
		if n > 2 {
			all = append(all, check(n, 2, running(1, 1, n-1, 2)), check(n, n-2, running(1, 1, n-1, 2), running(2, 1, 2, 2)), check(n, 2, in(api.Committed, running(2, 1, 1, 1)), running(3, 2, n-1, 0)))
		}
		return all
	}
	all := logs(nil)
	for from, n := 0, uint64(2); n <= uint64(2*most); n += 2 {
		to := len(all)
		for _, l := range all[from:to] {
			for _, r := range of(l, n) {
				all = append(all, append(clone(l), r))
			}
		}
		from = to
	}
	return all
}

func TestSmallLogs(t *testing.T) {
	refused := 0
	for _, l := range small(4) {
		if holds(t, work(logs(l), cells(1, "a"))) != ok {
			refused++
		}
	}
	if refused < 100 {
		t.Errorf("%d logs were refused", refused)
	}
	all := small(2)
	for _, a := range all {
		for _, b := range all {
			holds(t, work(logs(a, b), cells(1, "a")))
		}
	}
}

// anyLogs are random logs, whose records needn't fit to each other, with
// checkpoints that needn't tell what is so.
func anyLogs(rnd *rand.Rand) [][]api.Record {
	l := noLogs(rnd.Intn(4))
	for node := range l {
		lsn := uint64(0)
		for range rnd.Intn(10) {
			lsn += uint64(1 + rnd.Intn(2))
			l[node] = append(l[node], anyRecord(rnd, lsn))
		}
	}
	return l
}

func anyRecord(rnd *rand.Rand, lsn uint64) api.Record {
	number, prev := 1+rnd.Intn(3), uint64(rnd.Intn(int(lsn)))
	c := update(rnd.Intn(2), 0, "a", "a")
	switch rnd.Intn(20) {
	case 0:
		c = insert(rnd.Intn(3), rnd.Intn(2), "a")
	case 1:
		c = update(0, 0, "a", "b")
	}
	switch rnd.Intn(12) {
	case 0:
		return begin(lsn)
	case 1, 2:
		return back(lsn, number, prev, uint64(rnd.Intn(int(lsn))), c)
	case 3:
		return commit(lsn, number, prev)
	case 4:
		return end(lsn, number, prev)
	case 5:
		return abort(lsn, number, prev)
	case 6:
		return save(lsn, number, prev)
	case 7:
		if lsn > 1 {
			return anyCheck(rnd, lsn)
		}
	}
	return put(lsn, number, prev, c)
}

func anyCheck(rnd *rand.Rand, lsn uint64) api.Record {
	r := check(lsn, uint64(1+rnd.Intn(int(lsn-1))))
	for number := range 4 {
		if rnd.Intn(2) == 0 {
			last := uint64(1 + rnd.Intn(int(lsn-1)))
			r.Txns = append(r.Txns, in(1+rnd.Intn(3), running(number+1, 1, last, uint64(rnd.Intn(int(last+1))))))
		}
	}
	return r
}

func TestAnyLogs(t *testing.T) {
	rnd := rand.New(rand.NewSource(19))
	count := map[api.Errno]int{}
	for range 4000 {
		p := pages(cells(uint64(rnd.Intn(20)), "a"), cells(0, "a"), cells(0, "a", "a"))
		if rnd.Intn(10) == 0 {
			p[2].LSN = api.MaxLSN - uint64(rnd.Intn(6))
		}
		count[holds(t, work(anyLogs(rnd), p[:2+rnd.Intn(2)]...))]++
	}
	if count[ok] < 1000 || count[form] < 500 || count[full] < 50 {
		t.Errorf("what was told: %v", count)
	}
}

// R1: long logs, many rows, and long ways through a log.
func TestLongLogs(t *testing.T) {
	const n = 1500
	w := work(noLogs(api.MaxNodes), cells(n, "a"))
	for i := range n {
		node := i % 2
		prev := uint64(0)
		if i >= 2 {
			prev = uint64(i - 1)
		}
		w.Logs[node] = append(w.Logs[node], put(uint64(i+1), 1, prev, update(0, 0, "a", "a")))
		w.Logs[5] = append(w.Logs[5], put(uint64(i+1), i+1, 0, update(0, 0, "a", "a")))
		w.Logs[6] = append(w.Logs[6], save(uint64(i+1), 1, uint64(i)))
		w.Logs[7] = append(w.Logs[7], commit(uint64(i+1), api.MaxTxn-i, 0))
	}
	got, steps, errno := All(w)
	if errno != ok || steps != 2*n+2+n+1+n {
		t.Fatalf("All: %d steps, %d", steps, errno)
	}
	for i, r := range got.Logs[0][n/2:] {
		if r.Kind == api.RClr && (r.LSN <= got.Logs[0][n/2+i-1].LSN || r.Txn != 1) {
			t.Fatalf("All: %v at %d", r, i)
		}
	}
	wantDone(t, got)
}

// R3, R4, R6.

// scene is what is asked.
type scene struct {
	name string
	w    api.Work
}

func scenes() []scene {
	rows := work(logs(told(running(1, 1, 19, 7), running(4, 1, 19, 4), in(api.Committed, running(5, 1, 3, 3)))), toldPage())
	rows.Logs[0][13].Dirty = []api.DirtyRow{{Page: 0, Rec: 1}, {Page: 3, Rec: 2}}
	all := []scene{
		{"none", api.Work{}},
		{"the example", example()},
		{"several", several()},
		{"all is over", work(logs(ended(5), nil, ended(3)), cells(9))},
		{"rows", rows},
		{"rows twice", work(logs(rows.Logs[0], nil, told(in(api.Aborting, running(2, 1, 11, 0)))), at(toldPage(), 1, "b"))},
		{"no such page", work(several().Logs, several().Pages[:3]...)},
		{"refused later", work(several().Logs, append(several().Pages[1:2:2], several().Pages[1:]...)...)},
		{"no number left", work(several().Logs, append(several().Pages, cells(api.MaxLSN))...)},
		{"too many logs", work(noLogs(api.MaxNodes+1), several().Pages...)},
		{"too many pages", work(several().Logs, noPages(api.MaxPages+1)...)},
		{"a bad page", work(several().Logs, append(several().Pages, badPages()[0])...)},
	}
	for _, bad := range badLogs()[:6] {
		all = append(all, scene{bad.name, work(append(several().Logs, bad.l), several().Pages...)})
	}
	return all
}

// answers is all that the calls answer, as a text.
func answers(w api.Work) string {
	s, some, errno := Pick(w.Logs)
	x, more, errno2 := Step(w)
	y, n, errno3 := All(w)
	return fmt.Sprint(s, some, errno, x, more, errno2, y, n, errno3)
}

func TestArgumentsStay(t *testing.T) {
	for _, s := range scenes() {
		w := cloneWork(s.w)
		answers(w)
		if !sameWork(w, s.w) {
			t.Errorf("%s: the arguments were changed: %v", s.name, w)
		}
	}
}

// withRoom is work each of whose lists has something behind its length.
func withRoom(w api.Work) api.Work {
	c := api.Work{}
	for _, l := range w.Logs {
		m := append(clone(l), put(9000, 9, 0, insert(0, 5, "behind")), api.Record{Kind: -1})
		for i, r := range l {
			m[i].Txns = append(slices.Clone(r.Txns), running(99, 1, 1, 1))[:len(r.Txns)]
			m[i].Dirty = append(slices.Clone(r.Dirty), api.DirtyRow{Page: 9, Rec: 9})[:len(r.Dirty)]
		}
		c.Logs = append(c.Logs, m[:len(l)])
	}
	c.Logs = append(c.Logs, records(put(9001, 9, 0, insert(0, 5, "behind"))))[:len(w.Logs)]
	c.Pages = append(slices.Clone(w.Pages), cells(9002, "behind"), badPages()[0])[:len(w.Pages)]
	return c
}

// roomStays tells whether what lies behind the lists is as it was.
func roomStays(w api.Work) bool {
	stays := true
	for _, l := range w.Logs {
		behind := l[len(l) : len(l)+2]
		stays = stays && record.Same(behind[0], put(9000, 9, 0, insert(0, 5, "behind"))) && record.Same(behind[1], api.Record{Kind: -1})
		for _, r := range l {
			stays = stays && r.Txns[:len(r.Txns)+1][len(r.Txns)] == running(99, 1, 1, 1)
			stays = stays && r.Dirty[:len(r.Dirty)+1][len(r.Dirty)] == api.DirtyRow{Page: 9, Rec: 9}
		}
	}
	log := w.Logs[:len(w.Logs)+1][len(w.Logs)]
	p := w.Pages[:len(w.Pages)+2][len(w.Pages):]
	return stays && same(log, records(put(9001, 9, 0, insert(0, 5, "behind")))) && p[0] == cells(9002, "behind") && p[1] == badPages()[0]
}

func TestNothingBehindLists(t *testing.T) {
	for _, s := range scenes() {
		w := withRoom(s.w)
		if got, want := answers(w), answers(s.w); got != want {
			t.Errorf("%s: what lies behind plays a part: %s, not %s", s.name, got, want)
		}
		if !roomStays(w) {
			t.Errorf("%s: what lies behind was changed: %v", s.name, w)
		}
	}
}

// Logs that lie side by side in one memory: what is appended to one of them is
// written into no other one.
func TestLogsSideBySide(t *testing.T) {
	want, steps, _ := All(several())
	var all []api.Record
	for _, l := range several().Logs {
		all = append(all, l...)
	}
	w := work(nil, several().Pages...)
	from := 0
	for _, l := range several().Logs {
		w.Logs = append(w.Logs, all[from:from+len(l)])
		from += len(l)
	}
	wantAll(t, w, want, steps)
	if !sameWork(w, several()) {
		t.Errorf("the arguments were changed: %v", w)
	}
}

// scribble writes over all memory of work, also behind its lists.
func scribble(w api.Work) {
	for i := range w.Logs[:cap(w.Logs)] {
		scribbleLog(w.Logs[:cap(w.Logs)][i])
		w.Logs[:cap(w.Logs)][i] = nil
	}
	for i := range w.Pages[:cap(w.Pages)] {
		w.Pages[:cap(w.Pages)][i] = cells(66, "changed")
	}
}

func scribbleLog(l []api.Record) {
	l = l[:cap(l)]
	for i := range l {
		scribbleRecord(l[i])
		l[i] = commit(1, 1, 0)
	}
}

func scribbleRecord(r api.Record) {
	for i := range r.Txns[:cap(r.Txns)] {
		r.Txns[:cap(r.Txns)][i] = running(77, 7, 7, 7)
	}
	for i := range r.Dirty[:cap(r.Dirty)] {
		r.Dirty[:cap(r.Dirty)][i] = api.DirtyRow{Page: 7, Rec: 77}
	}
}

// What comes out is memory of its own: changed, also behind its lengths, it
// changes nothing that went in, nor what is answered next.
func TestAnswersAreNew(t *testing.T) {
	for _, s := range scenes() {
		w := cloneWork(s.w)
		before := answers(w)
		pick, _, _ := Pick(w.Logs)
		scribbleRecord(pick.Record)
		step, _, _ := Step(w)
		scribble(step)
		all, _, _ := All(w)
		scribble(all)
		if !sameWork(w, s.w) {
			t.Errorf("%s: an answer shares memory with an argument", s.name)
		}
		if after := answers(w); after != before {
			t.Errorf("%s: %s, then %s", s.name, before, after)
		}
	}
}

// An answer stays when what went in is changed, and when other answers are.
func TestAnswersStay(t *testing.T) {
	for _, s := range scenes() {
		w := cloneWork(s.w)
		step, _, _ := Step(w)
		all, _, _ := All(w)
		other, _, _ := All(w)
		wantStep, wantAll := cloneWork(step), cloneWork(all)
		scribble(w)
		scribble(other)
		if !sameWork(step, wantStep) || !sameWork(all, wantAll) {
			t.Errorf("%s: an answer was changed", s.name)
		}
		scribble(step)
		if !sameWork(all, wantAll) {
			t.Errorf("%s: an answer shares memory with another one", s.name)
		}
	}
}

// Parts of one answer share nothing: not logs of one memory, nor rows.
func TestPartsOfAnswers(t *testing.T) {
	rows := []api.TxnRow{running(1, 1, 1, 0), running(2, 1, 1, 0)}
	dirty := []api.DirtyRow{{Page: 1, Rec: 1}}
	one := records(begin(1), check(2, 1), check(3, 1))
	for i := range one[1:] {
		one[i+1].Txns, one[i+1].Dirty = rows, dirty
	}
	w := work(logs(one, one, one[:2], one[1:]), cells(1))
	for _, call := range []func() api.Work{
		func() api.Work { got, _, _ := Step(w); return got },
		func() api.Work { got, _, _ := All(w); return got },
	} {
		for node := range w.Logs {
			got, want := call(), call()
			scribbleLog(got.Logs[node])
			got.Logs[node], want.Logs[node] = nil, nil
			if !sameWork(got, want) {
				t.Errorf("the log %d shares memory with another one", node)
			}
		}
		for node := range w.Logs {
			for i := range w.Logs[node] {
				got, want := call(), call()
				scribbleRecord(got.Logs[node][i])
				got.Logs[node][i], want.Logs[node][i] = begin(1), begin(1)
				if !sameWork(got, want) {
					t.Errorf("the record %d of the log %d shares memory with another one", i, node)
				}
			}
		}
	}
	// A record's two lists are of two types, and can't share.
}

func TestEmptyIsNil(t *testing.T) {
	for _, l := range [][][]api.Record{nil, noLogs(0), noLogs(3)[:0], noLogs(3), {{}, {}}, {nil, {}, several().Logs[0][:0]}} {
		for _, p := range [][]api.Page{nil, noPages(0), noPages(4)[:0], noPages(2)} {
			wantDone(t, work(l, p...))
		}
	}
	w := example()
	for i := range w.Logs {
		for j := range w.Logs[i] {
			w.Logs[i][j].Txns, w.Logs[i][j].Dirty = []api.TxnRow{}, []api.DirtyRow{}
		}
	}
	wantSteps(t, w, exampleSteps())
	w.Logs = append(w.Logs, records(), nil)
	wantSteps(t, w, exampleSteps())
}

func TestSameAnswersAgain(t *testing.T) {
	first := map[string]string{}
	for range 3 {
		for _, s := range scenes() {
			got := answers(s.w)
			if want, asked := first[s.name]; asked && got != want {
				t.Errorf("%s: %s, then %s", s.name, want, got)
			}
			first[s.name] = got
		}
	}
}
