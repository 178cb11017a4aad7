package merge

import (
	"cmp"
	"fmt"
	"math"
	"math/rand"
	"slices"
	"strings"
	"testing"

	"quayside/api"
	"quayside/record"
)

const (
	ok   = api.OK
	arg  = api.ErrArg
	form = api.ErrForm

	top = math.MaxUint64
)

// put is an RUpdate of a page.
func put(lsn uint64, page int) api.Record {
	return api.Record{Kind: api.RUpdate, LSN: lsn, Txn: 1, Change: api.Change{Kind: api.Insert, Page: page, New: fmt.Sprint(lsn)}}
}

// back is an RClr that changes a page.
func back(lsn uint64, page int) api.Record {
	return api.Record{Kind: api.RClr, LSN: lsn, Txn: 1, Change: api.Change{Kind: api.Delete, Page: page, Old: "a"}}
}

func plain(kind int, lsn uint64) api.Record {
	r := api.Record{Kind: kind, LSN: lsn, Txn: 2}
	if kind == api.RSave {
		r.Save = 1
	}
	return r
}

func commit(lsn uint64) api.Record { return plain(api.RCommit, lsn) }

func begin(lsn uint64) api.Record {
	return api.Record{Kind: api.RBegin, LSN: lsn}
}

// check is an RCheck with rows, so its LSN is at least 2.
func check(lsn uint64) api.Record {
	return api.Record{
		Kind: api.RCheck, LSN: lsn, Begin: 1,
		Txns:  []api.TxnRow{{Txn: 1, State: api.Running, First: 1, Last: 1, Next: 1}, {Txn: 2, State: api.Committed, First: 1, Last: 1}},
		Dirty: []api.DirtyRow{{Page: 1, Rec: 1}, {Page: 4, Rec: 1}},
	}
}

// of is a record of each kind by turns.
func of(lsn uint64, turn int) api.Record {
	switch turn % 8 {
	case 0:
		return put(lsn, turn%5)
	case 1:
		return back(lsn, turn%5)
	case 2:
		return begin(lsn)
	case 3:
		if lsn > 1 {
			return check(lsn)
		}
		return begin(lsn)
	}
	return plain([]int{api.RCommit, api.RAbort, api.REnd, api.RSave}[turn%4], lsn)
}

func records(l ...api.Record) []api.Record { return l }

func logs(l ...[]api.Record) [][]api.Record { return l }

func on(node int, r api.Record) api.Stamped { return api.Stamped{Node: node, Record: r} }

func stamps(l ...api.Stamped) []api.Stamped { return l }

// commits is a log of records that are told by their LSNs alone.
func commits(lsns ...uint64) []api.Record {
	var l []api.Record
	for _, n := range lsns {
		l = append(l, commit(n))
	}
	return l
}

// several is the logs of four nodes whose numbers stand between one another's,
// with records of each kind; node 2 has none.
func several() [][]api.Record {
	return logs(
		records(put(2, 4), plain(api.RSave, 4), begin(5), check(9), plain(api.REnd, 20)),
		records(put(1, 4), back(4, 4), put(5, 0), plain(api.RAbort, 10), commit(21)),
		nil,
		records(begin(4), put(5, 4), check(6), back(7, 31), plain(api.REnd, 9), put(30, 0)),
	)
}

// severalMerged is what these are, merged.
func severalMerged() []api.Stamped {
	return stamps(
		on(1, put(1, 4)),
		on(0, put(2, 4)),
		on(0, plain(api.RSave, 4)),
		on(1, back(4, 4)),
		on(3, begin(4)),
		on(0, begin(5)),
		on(1, put(5, 0)),
		on(3, put(5, 4)),
		on(3, check(6)),
		on(3, back(7, 31)),
		on(0, check(9)),
		on(3, plain(api.REnd, 9)),
		on(1, plain(api.RAbort, 10)),
		on(0, plain(api.REnd, 20)),
		on(1, commit(21)),
		on(3, put(30, 0)),
	)
}

func cloneRecord(r api.Record) api.Record {
	r.Txns, r.Dirty = slices.Clone(r.Txns), slices.Clone(r.Dirty)
	return r
}

func clone(l []api.Record) []api.Record {
	c := slices.Clone(l)
	for i, r := range c {
		c[i] = cloneRecord(r)
	}
	return c
}

func cloneLogs(l [][]api.Record) [][]api.Record {
	c := slices.Clone(l)
	for i, x := range c {
		c[i] = clone(x)
	}
	return c
}

func cloneStamps(l []api.Stamped) []api.Stamped {
	c := slices.Clone(l)
	for i, s := range c {
		c[i].Record = cloneRecord(s.Record)
	}
	return c
}

func same(a, b []api.Record) bool {
	return slices.EqualFunc(a, b, record.Same)
}

func sameLogs(a, b [][]api.Record) bool {
	return slices.EqualFunc(a, b, same)
}

func sameStamps(a, b []api.Stamped) bool {
	return slices.EqualFunc(a, b, func(x, y api.Stamped) bool {
		return x.Node == y.Node && record.Same(x.Record, y.Record)
	})
}

func wantAll(t *testing.T, l [][]api.Record, want []api.Stamped) {
	t.Helper()
	if got, errno := All(l); errno != ok || !sameStamps(got, want) {
		t.Errorf("All(%v): %v, %d, not %v", l, got, errno, want)
	}
}

func refusesAll(t *testing.T, name string, l [][]api.Record, want api.Errno) {
	t.Helper()
	if got, errno := All(l); errno != want || len(got) != 0 {
		t.Errorf("All, %s: %v, %d, not %d", name, got, errno, want)
	}
}

func wantSplit(t *testing.T, l []api.Stamped, nodes int, want [][]api.Record) {
	t.Helper()
	if got, errno := Split(l, nodes); errno != ok || !sameLogs(got, want) {
		t.Errorf("Split(%v, %d): %v, %d, not %v", l, nodes, got, errno, want)
	}
}

func refusesSplit(t *testing.T, name string, l []api.Stamped, nodes int, want api.Errno) {
	t.Helper()
	if got, errno := Split(l, nodes); errno != want || len(got) != 0 {
		t.Errorf("Split among %d, %s: %v, %d, not %d", nodes, name, got, errno, want)
	}
}

// The chapter's example.

func TestExample(t *testing.T) {
	l := logs(commits(3, 7), commits(3, 5))
	merged := stamps(on(0, commit(3)), on(1, commit(3)), on(1, commit(5)), on(0, commit(7)))
	wantAll(t, l, merged)
	wantSplit(t, merged, 2, l)
}

// P17.1.

func TestAllOfSeveral(t *testing.T) {
	wantAll(t, several(), severalMerged())
}

// Of logs that stand one behind the other, whichever comes first.
func TestAllOfLogsApart(t *testing.T) {
	wantAll(t, logs(commits(1, 2), commits(3, 4)), stamps(on(0, commit(1)), on(0, commit(2)), on(1, commit(3)), on(1, commit(4))))
	wantAll(t, logs(commits(3, 4), commits(1, 2)), stamps(on(1, commit(1)), on(1, commit(2)), on(0, commit(3)), on(0, commit(4))))
	wantAll(t, logs(commits(2, 5), commits(3, 4), commits(1, 6)),
		stamps(on(2, commit(1)), on(0, commit(2)), on(1, commit(3)), on(1, commit(4)), on(0, commit(5)), on(2, commit(6))))
}

// A log alone, in each node's place, is that log.
func TestAllOfOneLog(t *testing.T) {
	for _, log := range append(several(), commits(1), commits(api.MaxLSN), commits(1, api.TopLSN, api.MaxLSN)) {
		for node := range api.MaxNodes {
			l := make([][]api.Record, api.MaxNodes)
			l[node] = log
			var want []api.Stamped
			for _, r := range log {
				want = append(want, on(node, r))
			}
			wantAll(t, l, want)
			wantAll(t, l[:node+1], want)
		}
	}
}

func TestAllOfNothing(t *testing.T) {
	wantAll(t, nil, nil)
	wantAll(t, logs(), nil)
	for n := range api.MaxNodes + 1 {
		l := make([][]api.Record, n)
		wantAll(t, l, nil)
		for i := range l {
			l[i] = records()
		}
		wantAll(t, l, nil)
	}
}

func TestAllOfEmptyLogsBetween(t *testing.T) {
	want := stamps(on(5, commit(1)), on(2, commit(2)), on(2, commit(3)), on(5, commit(3)))
	wantAll(t, logs(nil, records(), commits(2, 3), nil, records(), commits(1, 3), nil), want)
	wantAll(t, logs(nil, nil, commits(2, 3), nil, nil, commits(1, 3)), want)
}

// full is as many logs as may be, with one LSN in all of them, and one that only
// the last of them has.
func full() [][]api.Record {
	var l [][]api.Record
	for node := range api.MaxNodes {
		l = append(l, commits(uint64(api.MaxNodes-node), 20, uint64(30+node)))
	}
	return l
}

func TestAllOfMaxNodes(t *testing.T) {
	var want []api.Stamped
	for i := range api.MaxNodes {
		want = append(want, on(api.MaxNodes-1-i, commit(uint64(i+1))))
	}
	for node := range api.MaxNodes {
		want = append(want, on(node, commit(20)))
	}
	for node := range api.MaxNodes {
		want = append(want, on(node, commit(uint64(30+node))))
	}
	wantAll(t, full(), want)
}

func TestAllOfMoreThanMaxNodes(t *testing.T) {
	refusesAll(t, "nine empty ones", make([][]api.Record, api.MaxNodes+1), arg)
	refusesAll(t, "nine", append(full(), commits(50)), arg)
	refusesAll(t, "eight and an empty one", append(full(), nil), arg)
	refusesAll(t, "a thousand", make([][]api.Record, 1000), arg)
	for _, bad := range noLogs() {
		refusesAll(t, "the last of nine is none: "+bad.name, append(full(), bad.l), arg)
		refusesAll(t, "the first of nine is none: "+bad.name, append(logs(bad.l), full()...), arg)
	}
}

// One LSN in all logs, and in each two of them.
func TestAllOfOneNumber(t *testing.T) {
	for n := 1; n <= api.MaxNodes; n++ {
		var l [][]api.Record
		var want []api.Stamped
		for node := range n {
			l = append(l, records(of(7, node)))
			want = append(want, on(node, of(7, node)))
		}
		wantAll(t, l, want)
	}
	for i := range api.MaxNodes {
		for j := range i {
			l := make([][]api.Record, api.MaxNodes)
			l[i], l[j] = commits(5, 7), commits(6, 7)
			wantAll(t, l, stamps(on(i, commit(5)), on(j, commit(6)), on(j, commit(7)), on(i, commit(7))))
		}
	}
}

func TestAllAtBounds(t *testing.T) {
	last := api.MaxLSN
	l := logs(commits(last), commits(1, last-1, last), commits(1))
	wantAll(t, l, stamps(on(1, commit(1)), on(2, commit(1)), on(1, commit(last-1)), on(0, commit(last)), on(1, commit(last))))
}

// fault makes a record such that it isn't right.
type fault struct {
	name string
	make func(*api.Record)
}

func faults() []fault {
	return []fault{
		{"no kind", func(r *api.Record) { r.Kind = 0 }},
		{"a kind below", func(r *api.Record) { r.Kind = -1 }},
		{"a kind above", func(r *api.Record) { r.Kind = api.RCheck + 1 }},
		{"a Txn below", func(r *api.Record) { r.Txn = -1 }},
		{"a Txn above", func(r *api.Record) { r.Txn = api.MaxTxn + 1 }},
		{"its own Prev", func(r *api.Record) { r.Prev = r.LSN }},
		{"a Next behind it", func(r *api.Record) { r.Next = top }},
		{"a page below", func(r *api.Record) { r.Change.Page = -1 }},
		{"a page above", func(r *api.Record) { r.Change.Page = api.MaxPages }},
		{"a slot above", func(r *api.Record) { r.Change.Slot = api.Slots }},
		{"no kind of change", func(r *api.Record) { r.Change.Kind = 4 }},
		{"a value too long", func(r *api.Record) { r.Change.New = strings.Repeat("x", api.MaxValue+1) }},
		{"a Save above", func(r *api.Record) { r.Save = api.MaxSaves + 1 }},
		{"its own Begin", func(r *api.Record) { r.Begin = r.LSN }},
		{"rows that don't rise", func(r *api.Record) {
			row := api.TxnRow{Txn: 1, State: api.Running, First: 1, Last: 1}
			r.Txns = []api.TxnRow{row, row}
		}},
		{"a dirty page above", func(r *api.Record) { r.Dirty = []api.DirtyRow{{Page: api.MaxPages, Rec: 1}} }},
	}
}

// noLog is records that are none, and why.
type noLog struct {
	name string
	l    []api.Record
}

// eachKind is a log with all kinds.
func eachKind() []api.Record {
	return records(put(2, 4), back(3, 4), commit(5), plain(api.RAbort, 8), plain(api.REnd, 9), plain(api.RSave, 10), begin(11), check(13))
}

// noLogs are logs each with one fault, at each place.
func noLogs() []noLog {
	all := []noLog{{"the LSN 0", commits(0)}, {"the LSN 0 alone ahead", commits(0, 3)}, {"an LSN above", commits(3, api.MaxLSN+1)}, {"the greatest LSN", commits(3, top)}}
	for i := range eachKind() {
		for _, f := range faults() {
			l := eachKind()
			f.make(&l[i])
			all = append(all, noLog{fmt.Sprintf("%s at %d", f.name, i), l})
		}
	}
	for i := range eachKind()[1:] {
		alike, falls, swapped, twice := eachKind(), eachKind(), eachKind(), eachKind()
		alike[i+1] = commit(alike[i].LSN)
		falls[i+1] = commit(falls[i].LSN - 1)
		swapped[i], swapped[i+1] = swapped[i+1], swapped[i]
		twice = slices.Insert(twice, i, twice[i])
		all = append(all,
			noLog{fmt.Sprintf("alike at %d", i), alike},
			noLog{fmt.Sprintf("falls at %d", i), falls},
			noLog{fmt.Sprintf("swapped at %d", i), swapped},
			noLog{fmt.Sprintf("twice at %d", i), twice})
	}
	return all
}

func TestAllOfNoLogs(t *testing.T) {
	for _, bad := range noLogs() {
		refusesAll(t, bad.name, logs(bad.l), form)
		for node := range several() {
			l := several()
			l[node] = bad.l
			refusesAll(t, fmt.Sprintf("%s, in the log %d", bad.name, node), l, form)
		}
		for node := range full() {
			l := full()
			l[node] = bad.l
			refusesAll(t, fmt.Sprintf("%s, in the log %d of eight", bad.name, node), l, form)
		}
		refusesAll(t, bad.name+", among empty ones", logs(nil, bad.l, records()), form)
	}
}

// mergedByWords is all records, put in order by sorting them.
func mergedByWords(l [][]api.Record) []api.Stamped {
	var all []api.Stamped
	for node := range l {
		for _, r := range l[len(l)-1-node] {
			all = append(all, on(len(l)-1-node, r))
		}
	}
	slices.SortFunc(all, func(a, b api.Stamped) int {
		return cmp.Or(cmp.Compare(a.Record.LSN, b.Record.LSN), cmp.Compare(a.Node, b.Node))
	})
	return all
}

// splitByWords is, for each node, its records.
func splitByWords(l []api.Stamped, nodes int) [][]api.Record {
	var all [][]api.Record
	for node := range nodes {
		var log []api.Record
		for _, s := range l {
			if s.Node == node {
				log = append(log, s.Record)
			}
		}
		all = append(all, log)
	}
	return all
}

// eachLog does something with each log whose LSNs are from 1 to most.
func eachLog(most int, do func([]api.Record)) {
	for set := range 1 << most {
		var l []api.Record
		for i := range most {
			if set>>i&1 == 1 {
				l = append(l, of(uint64(i+1), set+i))
			}
		}
		do(l)
	}
}

// holds tells whether logs are merged as the chapter's words say, and split
// into what they were.
func holds(t *testing.T, l [][]api.Record) {
	t.Helper()
	merged := mergedByWords(l)
	wantAll(t, l, merged)
	for nodes := max(1, len(l)); nodes <= api.MaxNodes; nodes++ {
		want := slices.Concat(l, make([][]api.Record, nodes-len(l)))
		wantSplit(t, merged, nodes, want)
	}
}

// All logs of three nodes with numbers from 1 to 4; P17.5's first sentence, too.
func TestAllSmallLogs(t *testing.T) {
	eachLog(6, func(a []api.Record) {
		holds(t, logs(a))
	})
	eachLog(4, func(a []api.Record) {
		eachLog(4, func(b []api.Record) {
			holds(t, logs(a, b))
			eachLog(4, func(c []api.Record) {
				l := logs(a, b, c)
				wantAll(t, l, mergedByWords(l))
				wantSplit(t, mergedByWords(l), 3, l)
			})
		})
	})
}

// randomLogs are logs of random lengths, whose numbers are close enough to meet.
func randomLogs(rnd *rand.Rand, nodes, most int) [][]api.Record {
	l := make([][]api.Record, nodes)
	for node := range l {
		lsn := uint64(rnd.Intn(4))
		for range rnd.Intn(most + 1) {
			lsn += uint64(1 + rnd.Intn(4))
			l[node] = append(l[node], of(lsn, rnd.Intn(40)))
		}
	}
	return l
}

func TestRandomLogs(t *testing.T) {
	rnd := rand.New(rand.NewSource(17))
	for range 500 {
		holds(t, randomLogs(rnd, rnd.Intn(api.MaxNodes+1), 20))
	}
}

// R1: long logs.
func TestLongLogs(t *testing.T) {
	l := make([][]api.Record, api.MaxNodes)
	for i := range 1 << 16 {
		node := i * 5 % api.MaxNodes
		l[node] = append(l[node], commit(uint64(i+1)))
	}
	got, errno := All(l)
	if errno != ok || len(got) != 1<<16 {
		t.Fatalf("All: %d records, %d", len(got), errno)
	}
	for i, s := range got {
		if s.Node != i*5%api.MaxNodes || s.Record.LSN != uint64(i+1) {
			t.Fatalf("All: node %d, LSN %d at %d", s.Node, s.Record.LSN, i)
		}
	}
	wantSplit(t, got, api.MaxNodes, l)
}

// P17.2.

func TestSplitOfSeveral(t *testing.T) {
	wantSplit(t, severalMerged(), 4, several())
	wantSplit(t, severalMerged(), 5, append(several(), nil))
	wantSplit(t, severalMerged(), api.MaxNodes, append(several(), nil, nil, nil, nil))
}

var noNodes = []int{0, -1, -8, math.MinInt, api.MaxNodes + 1, api.MaxNodes + 2, 16, 256, 1 << 32, math.MaxInt}

// badStamps are records with their nodes that can't be split, whatever nodes is.
func badStamps() map[string][]api.Stamped {
	all := map[string][]api.Stamped{
		"a node of -1":           stamps(on(-1, commit(3))),
		"a node of 8":            stamps(on(api.MaxNodes, commit(3))),
		"the lowest node":        stamps(on(math.MinInt, commit(3))),
		"the highest node":       stamps(on(math.MaxInt, commit(3))),
		"the node 1<<32":         stamps(on(1<<32, commit(3))),
		"the LSN 0":              stamps(on(0, commit(0))),
		"an LSN above":           stamps(on(0, commit(api.MaxLSN+1))),
		"alike":                  stamps(on(0, commit(3)), on(0, commit(3))),
		"alike but for the kind": stamps(on(0, commit(3)), on(0, begin(3))),
		"alike behind another":   stamps(on(0, commit(2)), on(0, commit(3)), on(0, commit(3))),
		"LSNs that fall":         stamps(on(0, commit(4)), on(0, commit(3))),
		"LSNs that fall last":    stamps(on(0, commit(4)), on(0, commit(5)), on(0, commit(3))),
		"nothing":                stamps(on(0, api.Record{})),
	}
	for i, r := range eachKind() {
		for _, f := range faults() {
			l := stamps(on(0, commit(1)), on(0, r), on(0, commit(20)))
			f.make(&l[1].Record)
			all[fmt.Sprintf("%s at %d", f.name, i)] = l
			all[fmt.Sprintf("%s at %d, ahead", f.name, i)] = l[1:]
			all[fmt.Sprintf("%s at %d, behind", f.name, i)] = l[:2]
		}
	}
	return all
}

func TestSplitAmongNoNodes(t *testing.T) {
	for _, nodes := range noNodes {
		refusesSplit(t, "none", nil, nodes, arg)
		refusesSplit(t, "none", stamps(), nodes, arg)
		refusesSplit(t, "one", stamps(on(0, commit(3))), nodes, arg)
		refusesSplit(t, "several", severalMerged(), nodes, arg)
		refusesSplit(t, "a node below nodes", stamps(on(api.MaxNodes, commit(3))), nodes, arg)
		for name, l := range badStamps() {
			refusesSplit(t, name, l, nodes, arg)
		}
	}
}

func TestSplitOfBadRecords(t *testing.T) {
	for name, l := range badStamps() {
		for nodes := 1; nodes <= api.MaxNodes; nodes++ {
			refusesSplit(t, name, l, nodes, form)
		}
	}
}

func TestSplitOfNothing(t *testing.T) {
	for nodes := 1; nodes <= api.MaxNodes; nodes++ {
		wantSplit(t, nil, nodes, make([][]api.Record, nodes))
		wantSplit(t, stamps(), nodes, make([][]api.Record, nodes))
	}
}

// Each node from below 0 to above nodes, alone and behind others.
func TestSplitOfEachNode(t *testing.T) {
	for nodes := 1; nodes <= api.MaxNodes; nodes++ {
		for node := -2; node <= api.MaxNodes+1; node++ {
			alone, behind := stamps(on(node, put(5, 1))), stamps(on(0, commit(2)), on(node, check(5)))
			between := append(slices.Clone(behind), on(0, commit(9)))
			if node < 0 || node >= nodes {
				name := fmt.Sprintf("the node %d", node)
				refusesSplit(t, name, alone, nodes, form)
				refusesSplit(t, name, behind, nodes, form)
				refusesSplit(t, name, between, nodes, form)
				continue
			}
			for _, l := range [][]api.Stamped{alone, behind, between} {
				wantSplit(t, l, nodes, splitByWords(l, nodes))
			}
		}
	}
}

func TestSplitOutOfOrder(t *testing.T) {
	for name, l := range map[string][]api.Stamped{
		"by the LSN":                    stamps(on(0, commit(5)), on(1, commit(4))),
		"by the LSN, of a node":         stamps(on(1, commit(5)), on(1, commit(4))),
		"by the node":                   stamps(on(1, commit(5)), on(0, commit(5))),
		"by the node, not one by one":   stamps(on(2, commit(5)), on(0, commit(5))),
		"two alike":                     stamps(on(1, commit(5)), on(1, commit(5))),
		"two alike, of two kinds":       stamps(on(1, commit(5)), on(1, put(5, 3))),
		"the last one":                  stamps(on(0, commit(3)), on(1, commit(3)), on(2, commit(3)), on(1, commit(3))),
		"the first one":                 stamps(on(2, commit(9)), on(1, commit(3)), on(2, commit(3))),
		"log by log":                    stamps(on(0, commit(3)), on(0, commit(7)), on(1, commit(3)), on(1, commit(5))),
		"by the node, then by the LSN":  stamps(on(0, commit(3)), on(1, commit(4)), on(0, commit(4)), on(0, commit(7))),
		"alike, with another's between": stamps(on(0, commit(3)), on(1, commit(3)), on(0, commit(3))),
	} {
		for nodes := 3; nodes <= api.MaxNodes; nodes++ {
			refusesSplit(t, name, l, nodes, form)
		}
	}
	for i := range severalMerged()[1:] {
		swapped, twice := severalMerged(), severalMerged()
		swapped[i], swapped[i+1] = swapped[i+1], swapped[i]
		refusesSplit(t, fmt.Sprintf("swapped at %d", i), swapped, 4, form)
		refusesSplit(t, fmt.Sprintf("twice at %d", i), slices.Insert(twice, i, twice[i]), 4, form)
	}
}

// inOrder tells, of each two, whether the one stands ahead of the other: not of
// neighbours alone.
func inOrder(l []api.Stamped) bool {
	for i := range l {
		for j := range i {
			a, b := l[j], l[i]
			if a.Record.LSN > b.Record.LSN || a.Record.LSN == b.Record.LSN && a.Node >= b.Node {
				return false
			}
		}
	}
	return true
}

// eachStamped does something with each record of few numbers and nodes, those
// that aren't among them, too.
func eachStamped(do func(api.Stamped)) {
	for lsn := range uint64(4) {
		for node := -1; node <= 3; node++ {
			do(on(node, of(lsn, int(lsn)+node+8)))
		}
	}
}

func holdsSplit(t *testing.T, l []api.Stamped) {
	t.Helper()
	for nodes := -1; nodes <= 4; nodes++ {
		bad := !inOrder(l) || slices.ContainsFunc(l, func(s api.Stamped) bool {
			return s.Node < 0 || s.Node >= nodes || s.Record.LSN < 1
		})
		switch {
		case nodes < 1:
			refusesSplit(t, fmt.Sprint(l), l, nodes, arg)
		case bad:
			refusesSplit(t, fmt.Sprint(l), l, nodes, form)
		default:
			wantSplit(t, l, nodes, splitByWords(l, nodes))
			merged, errno := All(splitByWords(l, nodes))
			if errno != ok || !sameStamps(merged, l) {
				t.Errorf("All of what %v is split into: %v, %d", l, merged, errno)
			}
		}
	}
}

// All lists of up to three of few records, against the chapter's words; P17.5's
// first sentence, too.
func TestSplitSmallLists(t *testing.T) {
	holdsSplit(t, nil)
	eachStamped(func(a api.Stamped) {
		holdsSplit(t, stamps(a))
		eachStamped(func(b api.Stamped) {
			holdsSplit(t, stamps(a, b))
			eachStamped(func(c api.Stamped) {
				holdsSplit(t, stamps(a, b, c))
			})
		})
	})
}

// P17.3.

func wantPage(t *testing.T, l []api.Stamped, page int, want []api.Stamped) {
	t.Helper()
	if got := Page(l, page); !sameStamps(got, want) {
		t.Errorf("Page(%v, %d): %v, not %v", l, page, got, want)
	}
}

func TestPageOfSeveral(t *testing.T) {
	wantPage(t, severalMerged(), 4, stamps(on(1, put(1, 4)), on(0, put(2, 4)), on(1, back(4, 4)), on(3, put(5, 4))))
	wantPage(t, severalMerged(), 0, stamps(on(1, put(5, 0)), on(3, put(30, 0))))
	wantPage(t, severalMerged(), 31, stamps(on(3, back(7, 31))))
	for page := -2; page < api.MaxPages+2; page++ {
		if page != 4 && page != 0 && page != 31 {
			wantPage(t, severalMerged(), page, nil)
		}
	}
	for _, page := range []int{math.MinInt, math.MaxInt, 4 + 1<<32, 4 - 1<<32, 4 + 1<<8, 4 + 1<<16} {
		wantPage(t, severalMerged(), page, nil)
	}
}

func TestPageOfNothing(t *testing.T) {
	for page := -1; page <= api.MaxPages; page++ {
		wantPage(t, nil, page, nil)
		wantPage(t, stamps(), page, nil)
	}
}

// Of each kind with a change of the page, though most kinds bear none: such a
// record isn't right, but Page takes any.
func TestPageOfEachKind(t *testing.T) {
	for kind := -1; kind <= api.RCheck+2; kind++ {
		for page := range api.MaxPages {
			r := check(5)
			r.Kind, r.Change = kind, api.Change{Kind: api.Update, Page: page, Slot: 3, Old: "a", New: "b"}
			l := stamps(on(2, r))
			want := l
			if kind != api.RUpdate && kind != api.RClr {
				want = nil
			}
			wantPage(t, l, page, want)
			wantPage(t, l, page-1, nil)
			wantPage(t, l, page+1, nil)
		}
	}
}

// The kinds that bear no change are of no page, not of the page 0.
func TestPageOfRecordsWithoutAChange(t *testing.T) {
	var l []api.Stamped
	for i, r := range eachKind()[2:] {
		l = append(l, on(i, r))
	}
	for page := -1; page <= api.MaxPages; page++ {
		wantPage(t, l, page, nil)
	}
}

// Each kind of change, and each slot, is a change of the page.
func TestPageOfEachChange(t *testing.T) {
	var l []api.Stamped
	for slot := range api.Slots {
		for kind := api.Insert; kind <= api.Delete; kind++ {
			r := put(uint64(len(l)+1), 3)
			r.Kind = api.RUpdate + len(l)%2
			r.Change = api.Change{Kind: kind, Page: 3, Slot: slot}
			l = append(l, on(len(l)%api.MaxNodes, r))
		}
	}
	wantPage(t, l, 3, l)
	wantPage(t, l, 2, nil)
	wantPage(t, l, 0, nil)
}

// Records in any order, alike ones, of any node and with any LSN: they stay as
// they stand.
func TestPageOfAnyRecords(t *testing.T) {
	l := stamps(on(9, put(7, 3)), on(-1, back(0, 3)), on(0, put(7, 2)), on(9, put(7, 3)), on(1, commit(8)), on(0, put(top, 3)))
	wantPage(t, l, 3, stamps(l[0], l[1], l[3], l[5]))
	wantPage(t, l, 2, stamps(l[2]))
	wantPage(t, l, 7, nil)
}

// By the words, a record may be one of a page that there can't be.
func TestPageOfNoPage(t *testing.T) {
	for _, page := range []int{-1, api.MaxPages, math.MinInt, math.MaxInt} {
		l := stamps(on(0, put(3, page)), on(1, put(4, 0)), on(2, back(5, page)))
		wantPage(t, l, page, stamps(l[0], l[2]))
		wantPage(t, l, 0, stamps(l[1]))
	}
}

// All pages together have all changes, each once.
func TestPagesOfRandomLogs(t *testing.T) {
	rnd := rand.New(rand.NewSource(3))
	for range 200 {
		l := mergedByWords(randomLogs(rnd, 1+rnd.Intn(api.MaxNodes), 20))
		sum := 0
		for page := range api.MaxPages {
			var want []api.Stamped
			for _, s := range l {
				if (s.Record.Kind == api.RUpdate || s.Record.Kind == api.RClr) && s.Record.Change.Page == page {
					want = append(want, s)
				}
			}
			wantPage(t, l, page, want)
			sum += len(want)
		}
		for _, s := range l {
			if s.Record.Change.Kind != 0 {
				sum--
			}
		}
		if sum != 0 {
			t.Errorf("of %v %d changes too many were told", l, sum)
		}
	}
}

// P17.4.

// sortedByWords is the chapter's sentence: each time, of the lists from the
// lowest on, the first one ahead of whose first nothing stands.
func sortedByWords[T any](lists [][]T, ahead func(a, b T) bool) []T {
	at := make([]int, len(lists))
	var all []T
	for {
		taken := false
		for i := range lists {
			if at[i] < len(lists[i]) && nothingAhead(lists, at, i, ahead) {
				all = append(all, lists[i][at[i]])
				at[i]++
				taken = true
				break
			}
		}
		if !taken {
			return all
		}
	}
}

func nothingAhead[T any](lists [][]T, at []int, i int, ahead func(a, b T) bool) bool {
	for j := range lists {
		if j != i && at[j] < len(lists[j]) && ahead(lists[j][at[j]], lists[i][at[i]]) {
			return false
		}
	}
	return true
}

func wantSorted[T comparable](t *testing.T, lists [][]T, ahead func(a, b T) bool, want ...T) {
	t.Helper()
	if got := Sorted(lists, ahead); !slices.Equal(got, want) {
		t.Errorf("Sorted(%v): %v, not %v", lists, got, want)
	}
}

func less[T cmp.Ordered](a, b T) bool { return a < b }

func never[T any](a, b T) bool { return false }

// tag is a number that tells where it came from: the order knows the number alone.
type tag struct {
	n    int
	from string
}

func lessTag(a, b tag) bool { return a.n < b.n }

func TestSortedOfNumbers(t *testing.T) {
	wantSorted(t, [][]int{{1, 4, 9}, {2, 4, 10}, {3}}, less, 1, 2, 3, 4, 4, 9, 10)
	wantSorted(t, [][]int{{3, 7}, {3, 5}}, less, 3, 3, 5, 7)
	wantSorted(t, [][]int{{5, 6}, {1, 2}, {3, 4}}, less, 1, 2, 3, 4, 5, 6)
	wantSorted(t, [][]int{{math.MaxInt}, {math.MinInt, 0}}, less, math.MinInt, 0, math.MaxInt)
	wantSorted(t, [][]uint64{{1, top}, {0, top}}, less, 0, 1, top, top)
	wantSorted(t, [][]uint8{{200}, {100, 255}, {0}}, less, 0, 100, 200, 255)
	wantSorted(t, [][]float64{{0.5, math.Inf(1)}, {math.Inf(-1), 0.25}}, less, math.Inf(-1), 0.25, 0.5, math.Inf(1))
	wantSorted(t, [][]int{{9, 4}, {8, 2}}, func(a, b int) bool { return a > b }, 9, 8, 4, 2)
}

func TestSortedOfTexts(t *testing.T) {
	wantSorted(t, [][]string{{"b", "d"}, {"a", "b", "c"}}, less, "a", "b", "b", "c", "d")
	wantSorted(t, [][]string{{"", "ab"}, {"a", "b"}, {""}}, less, "", "", "a", "ab", "b")
	byLength := func(a, b string) bool { return len(a) < len(b) }
	wantSorted(t, [][]string{{"zz", "aaa"}, {"y", "xx", "bbb"}, {"ww"}}, byLength, "y", "zz", "xx", "ww", "aaa", "bbb")
}

func TestSortedOfStructs(t *testing.T) {
	wantSorted(t, [][]tag{{{1, "a"}, {3, "a"}}, {{1, "b"}, {2, "b"}, {3, "b"}}, {{1, "c"}}}, lessTag,
		tag{1, "a"}, tag{1, "b"}, tag{1, "c"}, tag{2, "b"}, tag{3, "a"}, tag{3, "b"})
	wantSorted(t, [][]tag{{{2, "a"}}, {{1, "b"}, {2, "b"}}, {{2, "c"}}}, lessTag,
		tag{1, "b"}, tag{2, "a"}, tag{2, "b"}, tag{2, "c"})
}

// Of anything: lists of lists, functions and nothing at all.
func TestSortedOfAnything(t *testing.T) {
	shorter := func(a, b []int) bool { return len(a) < len(b) }
	got := Sorted([][][]int{{{1, 2}, {1, 2, 3}}, {nil, {7, 7}}}, shorter)
	want := [][]int{nil, {1, 2}, {7, 7}, {1, 2, 3}}
	if !slices.EqualFunc(got, want, slices.Equal) {
		t.Errorf("Sorted of lists: %v", got)
	}
	is := func(n int) func() int { return func() int { return n } }
	funcs := Sorted([][]func() int{{is(2), is(3)}, {is(1), is(4)}}, func(f, g func() int) bool { return f() < g() })
	for i, f := range funcs {
		if f() != i+1 {
			t.Errorf("Sorted of functions: %d at %d", f(), i)
		}
	}
	if len(funcs) != 4 {
		t.Errorf("Sorted of functions: %d of them", len(funcs))
	}
	wantSorted(t, [][]struct{}{{{}, {}}, {{}}}, never, struct{}{}, struct{}{}, struct{}{})
}

func TestSortedOfNothing(t *testing.T) {
	wantSorted[int](t, nil, less)
	wantSorted(t, [][]int{}, less)
	for n := range 20 {
		lists := make([][]int, n)
		wantSorted(t, lists, less)
		for i := range lists {
			lists[i] = []int{}
		}
		wantSorted(t, lists, less)
	}
}

func TestSortedOfEmptyListsBetween(t *testing.T) {
	wantSorted(t, [][]int{nil, {2, 5}, {}, nil, {1, 5, 6}, {}}, less, 1, 2, 5, 5, 6)
	wantSorted(t, [][]int{{}, {}, {3}}, less, 3)
	wantSorted(t, [][]int{{3}, {}, {}}, less, 3)
}

// One list is told as it stands, sorted or not.
func TestSortedOfOneList(t *testing.T) {
	for _, l := range [][]int{{}, {1}, {1, 2, 3}, {3, 2, 1}, {2, 3, 1, 1}} {
		for _, ahead := range []func(a, b int) bool{less[int], never[int]} {
			wantSorted(t, [][]int{l}, ahead, l...)
			wantSorted(t, [][]int{nil, l, nil}, ahead, l...)
		}
	}
}

// Only what stands first is asked: a list that isn't sorted in itself hides what
// stands behind.
func TestSortedOfUnsortedLists(t *testing.T) {
	wantSorted(t, [][]int{{5, 1}, {3, 4}}, less, 3, 4, 5, 1)
	wantSorted(t, [][]int{{2, 9, 1}, {3, 1, 8}}, less, 2, 3, 1, 8, 9, 1)
	wantSorted(t, [][]int{{3, 2, 1}, {3, 2, 1}}, less, 3, 2, 1, 3, 2, 1)
	wantSorted(t, [][]int{{4, 0}, {4, 0}, {2, 9}}, less, 2, 4, 0, 4, 0, 9)
}

func TestSortedOfAlike(t *testing.T) {
	alike := [][]tag{{{4, "a"}, {4, "b"}}, {{4, "c"}}, {{4, "d"}, {4, "e"}}}
	wantSorted(t, alike, lessTag, tag{4, "a"}, tag{4, "b"}, tag{4, "c"}, tag{4, "d"}, tag{4, "e"})
	// Alike ones wait for what stands ahead of them in a list behind.
	wantSorted(t, append(alike, []tag{{3, "f"}, {4, "g"}}), lessTag,
		tag{3, "f"}, tag{4, "a"}, tag{4, "b"}, tag{4, "c"}, tag{4, "d"}, tag{4, "e"}, tag{4, "g"})
	// All stand alike: list by list.
	wantSorted(t, [][]int{{3, 9}, nil, {2, 1}, {7}}, never, 3, 9, 2, 1, 7)
	wantSorted(t, [][]string{{"b"}, {"a"}}, never, "b", "a")
}

func TestSortedWithoutAnOrder(t *testing.T) {
	for _, lists := range [][][]int{nil, {}, {nil}, {{1}}, {{1, 2}, {3}}} {
		wantSorted(t, lists, nil)
	}
	wantSorted(t, [][]string{{"a"}}, nil)
	wantSorted(t, [][]tag{{{1, "a"}}, {{2, "b"}}}, nil)
}

// An order may tell nothing of two of which only one stands behind a third: of
// the lists ahead of whose first nothing stands the lowest comes first all the same.
func TestSortedByPartsOfAnOrder(t *testing.T) {
	divides := func(a, b int) bool { return a != b && b%a == 0 }
	wantSorted(t, [][]int{{4}, {3}, {2}}, divides, 3, 2, 4)
	wantSorted(t, [][]int{{12}, {8}, {9}, {3}, {2}}, divides, 3, 9, 2, 12, 8)
	wantSorted(t, [][]int{{6, 1}, {5, 10}, {3, 2}}, divides, 5, 10, 3, 2, 6, 1)
	wantSorted(t, [][]int{{8}, {6}, {5}, {4}, {3}}, divides, 5, 4, 8, 3, 6)
	nan := math.NaN()
	got := Sorted([][]float64{{3}, {nan}, {1}}, less)
	if len(got) != 3 || !math.IsNaN(got[0]) || got[1] != 1 || got[2] != 3 {
		t.Errorf("Sorted of no number among numbers: %v", got)
	}
}

// eachList does something with each list of up to most numbers from 0 to 2.
func eachList(most int, l []int, do func([]int)) {
	do(l)
	if len(l) == most {
		return
	}
	for n := range 3 {
		eachList(most, append(slices.Clone(l), n), do)
	}
}

// All short lists, sorted or not, against the chapter's words: each number is
// told with its list and its place, which the order doesn't know.
func TestAllSmallLists(t *testing.T) {
	tagged := func(lists ...[]int) [][]tag {
		all := make([][]tag, len(lists))
		for i, l := range lists {
			for j, n := range l {
				all[i] = append(all[i], tag{n, fmt.Sprint(i, j)})
			}
		}
		return all
	}
	eachList(3, nil, func(a []int) {
		eachList(3, nil, func(b []int) {
			lists := tagged(a, b)
			wantSorted(t, lists, lessTag, sortedByWords(lists, lessTag)...)
			eachList(2, nil, func(c []int) {
				lists := tagged(a, b, c)
				wantSorted(t, lists, lessTag, sortedByWords(lists, lessTag)...)
			})
		})
	})
}

// orders are strict ones of numbers from 0 to 15, with more and fewer that
// stand alike.
func orders() map[string]func(a, b tag) bool {
	return map[string]func(a, b tag) bool{
		"by number":     lessTag,
		"backwards":     func(a, b tag) bool { return b.n < a.n },
		"by quarters":   func(a, b tag) bool { return a.n/4 < b.n/4 },
		"all alike":     never[tag],
		"by bits":       func(a, b tag) bool { return a.n != b.n && a.n&b.n == a.n },
		"within parity": func(a, b tag) bool { return a.n%2 == b.n%2 && a.n < b.n },
		"far apart":     func(a, b tag) bool { return a.n+3 < b.n },
	}
}

// randomLists have numbers from 0 to 15, each told with its list and place.
func randomLists(rnd *rand.Rand, n, most int) [][]tag {
	lists := make([][]tag, n)
	for i := range lists {
		for j := range rnd.Intn(most + 1) {
			lists[i] = append(lists[i], tag{rnd.Intn(16), fmt.Sprint(i, j)})
		}
	}
	return lists
}

func TestRandomLists(t *testing.T) {
	rnd := rand.New(rand.NewSource(4))
	for range 300 {
		lists := randomLists(rnd, rnd.Intn(12), 8)
		for name, ahead := range orders() {
			want := sortedByWords(lists, ahead)
			if got := Sorted(lists, ahead); !slices.Equal(got, want) {
				t.Errorf("Sorted %s of %v: %v, not %v", name, lists, got, want)
			}
		}
	}
}

// Of sorted lists comes what sorting all of them, list by list, leaves.
func TestSortedIsAStableSort(t *testing.T) {
	rnd := rand.New(rand.NewSource(5))
	byNumber := func(a, b tag) int { return cmp.Compare(a.n, b.n) }
	for range 300 {
		lists := randomLists(rnd, rnd.Intn(40), 30)
		for _, l := range lists {
			slices.SortStableFunc(l, byNumber)
		}
		want := slices.Concat(lists...)
		slices.SortStableFunc(want, byNumber)
		wantSorted(t, lists, lessTag, want...)
	}
}

// R1: more lists than there can be nodes, a long one, and orders that are none:
// these end, too.
func TestSortedEnds(t *testing.T) {
	const n = 1000
	lists := make([][]int, n)
	for i := range lists {
		lists[i] = []int{(n - i) * 2, (n-i)*2 + 1}
	}
	got := Sorted(lists, less)
	for i, x := range got {
		if x != i+2 {
			t.Fatalf("Sorted of many: %d at %d", x, i)
		}
	}
	if len(got) != 2*n {
		t.Errorf("Sorted of many: %d of them", len(got))
	}
	long := make([]int, 1<<17)
	for i := range long {
		long[i] = i
	}
	wantSorted(t, [][]int{long, {}}, less, long...)
	for _, none := range []func(a, b int) bool{
		func(a, b int) bool { return true },
		func(a, b int) bool { return a <= b },
		func(a, b int) bool { return a != b },
		func(a, b int) bool { return (a+1)%3 == b%3 },
	} {
		got := Sorted([][]int{{0, 5}, {1, 4}, {2, 3}}, none)
		if slices.Sort(got); !slices.Equal(got, []int{0, 1, 2, 3, 4, 5}) {
			t.Errorf("Sorted by what is no order: %v", got)
		}
	}
}

// P17.5.

// cut is the logs of all records up to a number, and of those above it.
func cut(l [][]api.Record, n uint64) (below, above [][]api.Record) {
	for _, log := range l {
		i := 0
		for i < len(log) && log[i].LSN <= n {
			i++
		}
		below, above = append(below, log[:i]), append(above, log[i:])
	}
	return below, above
}

func wantCut(t *testing.T, l [][]api.Record, n uint64) {
	t.Helper()
	whole, errno := All(l)
	below, above := cut(l, n)
	one, errno1 := All(below)
	two, errno2 := All(above)
	if errno != ok || errno1 != ok || errno2 != ok || !sameStamps(append(one, two...), whole) {
		t.Errorf("%v, cut at %d: %v, %v", l, n, one, two)
	}
}

func TestCutLogs(t *testing.T) {
	for n := range uint64(32) {
		wantCut(t, several(), n)
		wantCut(t, full(), n)
		wantCut(t, logs(commits(3, 7), commits(3, 5)), n)
	}
	for _, n := range []uint64{api.TopLSN, api.MaxLSN, top} {
		wantCut(t, logs(commits(1, api.MaxLSN), commits(api.TopLSN, api.MaxLSN), nil), n)
		wantCut(t, nil, n)
	}
	rnd := rand.New(rand.NewSource(7))
	for range 100 {
		l := randomLogs(rnd, rnd.Intn(api.MaxNodes+1), 15)
		for n := range uint64(70) {
			wantCut(t, l, n)
		}
	}
}

// Merged in two steps: what Split tells of a merged beginning, with what stands
// behind it put on, is merged into the whole.
func TestSplitAndMergedOnwards(t *testing.T) {
	rnd := rand.New(rand.NewSource(8))
	for range 100 {
		l := randomLogs(rnd, 1+rnd.Intn(api.MaxNodes), 15)
		below, above := cut(l, uint64(rnd.Intn(50)))
		merged, _ := All(below)
		back, errno := Split(merged, len(l))
		if errno != ok {
			t.Errorf("Split(%v, %d): %d", merged, len(l), errno)
			continue
		}
		for node := range back {
			back[node] = append(back[node], above[node]...)
		}
		wantAll(t, back, mergedByWords(l))
	}
}

// What is merged can be split, and each page's changes of what is merged are
// those of the merged logs of that page's changes alone.
func TestPageOfMerged(t *testing.T) {
	rnd := rand.New(rand.NewSource(9))
	for range 100 {
		l := randomLogs(rnd, 1+rnd.Intn(api.MaxNodes), 15)
		merged, _ := All(l)
		for page := range 6 {
			changes := Page(merged, page)
			own, errno := Split(changes, len(l))
			if errno != ok {
				t.Errorf("Split of the page %d of %v: %d", page, l, errno)
			}
			wantAll(t, own, changes)
		}
	}
}

// R3, R6.

// told is all that the calls answer, as a text.
func told(l [][]api.Record, s []api.Stamped, nodes, page int) string {
	all, errno := All(l)
	split, errno2 := Split(s, nodes)
	return fmt.Sprint(all, errno, split, errno2, Page(s, page), Page(all, page), Sorted(l, byLSN), Sorted([][]api.Stamped{s, s}, before))
}

func byLSN(a, b api.Record) bool { return a.LSN < b.LSN }

// scene is what told is asked of.
type scene struct {
	name  string
	l     [][]api.Record
	s     []api.Stamped
	nodes int
}

func scenes() []scene {
	all := []scene{
		{"none", nil, nil, 1},
		{"several", several(), severalMerged(), 4},
		{"full", full(), mergedByWords(full()), api.MaxNodes},
		{"nine", append(full(), nil), severalMerged(), api.MaxNodes + 1},
		{"too few nodes", several(), severalMerged(), 3},
	}
	for _, bad := range noLogs() {
		var s []api.Stamped
		for _, r := range bad.l {
			s = append(s, on(1, r))
		}
		all = append(all, scene{bad.name, logs(commits(2, 4), bad.l), s, 2})
	}
	return all
}

// withRoom lays more behind the end of each list, and gives what is there as
// far as the end, and whole.
func withRoom(r api.Record) (short, whole api.Record) {
	whole = cloneRecord(r)
	whole.Txns = append(whole.Txns, api.TxnRow{Txn: 99, State: 3, First: 9, Last: 9, Next: 9}, api.TxnRow{Txn: -1})
	whole.Dirty = append(whole.Dirty, api.DirtyRow{Page: 31, Rec: 1}, api.DirtyRow{Page: -1})
	short = whole
	short.Txns, short.Dirty = whole.Txns[:len(r.Txns)], whole.Dirty[:len(r.Dirty)]
	return short, whole
}

// What goes in stays, and what lies behind its length is neither read nor
// written: behind rows, behind a log's records and behind the logs.
func TestArgumentsStay(t *testing.T) {
	for _, c := range scenes() {
		want := told(cloneLogs(c.l), cloneStamps(c.s), c.nodes, 4)
		tail := records(put(3, 4), check(700), commit(1))
		var l, rows [][]api.Record
		for _, log := range c.l {
			var shorts, wholes []api.Record
			for _, r := range append(clone(log), tail...) {
				short, whole := withRoom(r)
				shorts, wholes = append(shorts, short), append(wholes, whole)
			}
			l, rows = append(l, shorts[:len(log)]), append(rows, wholes)
		}
		l = append(l, commits(5), commits(4, 4))
		rest := stamps(on(0, put(1, 4)), on(3, check(900)))
		s := append(cloneStamps(c.s), rest...)
		if got := told(l[:len(c.l)], s[:len(c.s)], c.nodes, 4); got != want {
			t.Errorf("%s: what lies behind is read", c.name)
		}
		if !sameLogs(l[:len(c.l)], c.l) || !sameStamps(s[:len(c.s)], c.s) {
			t.Errorf("%s: became %v, %v", c.name, l[:len(c.l)], s[:len(c.s)])
		}
		if !sameLogs(l[len(c.l):], logs(commits(5), commits(4, 4))) || !sameStamps(s[len(c.s):], rest) {
			t.Errorf("%s: what lies behind was written", c.name)
		}
		for i, log := range c.l {
			if !same(l[i][len(log):][:len(tail):len(tail)], tail) {
				t.Errorf("%s: what lies behind the log %d was written", c.name, i)
			}
			for j, r := range append(clone(log), tail...) {
				if _, whole := withRoom(r); !record.Same(rows[i][j], whole) {
					t.Errorf("%s: the rows of the log %d at %d, or what lies behind them, were written", c.name, i, j)
				}
			}
		}
	}
}

// Sorted leaves the lists as they are, and what lies behind them.
func TestSortedLeavesItsLists(t *testing.T) {
	rnd := rand.New(rand.NewSource(10))
	for range 200 {
		lists := randomLists(rnd, rnd.Intn(9), 6)
		var long [][]tag
		for _, l := range lists {
			long = append(long, append(slices.Clone(l), tag{0, "behind"}, tag{-1, "behind"}))
		}
		long = append(long, []tag{{-5, "a list behind"}})
		short := slices.Clone(long)
		for i, l := range lists {
			short[i] = long[i][:len(l)]
		}
		for name, ahead := range orders() {
			if got := Sorted(short[:len(lists)], ahead); !slices.Equal(got, sortedByWords(lists, ahead)) {
				t.Errorf("Sorted %s of %v: what lies behind is read: %v", name, lists, got)
			}
		}
		for i, l := range lists {
			if !slices.Equal(short[i], l) || !slices.Equal(long[i][len(l):], []tag{{0, "behind"}, {-1, "behind"}}) {
				t.Errorf("Sorted wrote into the list %d: %v", i, long[i])
			}
		}
		if !slices.Equal(short[len(lists)], []tag{{-5, "a list behind"}}) {
			t.Errorf("Sorted wrote behind its lists: %v", short)
		}
	}
}

func scrawlRecord(r *api.Record) {
	for i := range r.Txns {
		r.Txns[i] = api.TxnRow{Txn: 77, State: 7, First: 7, Last: 7, Next: 7}
	}
	for i := range r.Dirty {
		r.Dirty[i] = api.DirtyRow{Page: 77, Rec: 77}
	}
	_ = append(r.Txns, api.TxnRow{Txn: 78})
	_ = append(r.Dirty, api.DirtyRow{Page: 78})
	*r = begin(77)
}

// scrawl writes over all records that were told, and behind them.
func scrawl(l []api.Record) {
	for i := range l {
		scrawlRecord(&l[i])
	}
	_ = append(l, begin(78))
}

func scrawlStamps(l []api.Stamped) {
	for i := range l {
		scrawlRecord(&l[i].Record)
		l[i].Node = 77
	}
	_ = append(l, on(78, begin(78)))
}

// sharing is logs in which one record, with the same rows, stands more than
// once, and whose lists lie in one memory.
func sharing() ([][]api.Record, []api.Stamped) {
	r, change := check(9), put(5, 4)
	change.Kind, change.Txns, change.Dirty = api.RClr, r.Txns, r.Dirty
	both := records(commit(3), r, commit(12))
	later := r
	later.LSN = 10
	s := stamps(on(0, commit(3)), on(0, r), on(1, r), on(1, later), on(2, change), on(0, change))
	return logs(both, both, both[:2], records(later), records(r)), s
}

func TestAnswersAreNewMemory(t *testing.T) {
	l, s := sharing()
	right := s[:4]
	keptLogs, keptStamps := cloneLogs(l), cloneStamps(s)
	for name, call := range map[string]func() []api.Stamped{
		"All":         func() []api.Stamped { got, _ := All(l); return got },
		"All of one":  func() []api.Stamped { got, _ := All(l[4:]); return got },
		"Page":        func() []api.Stamped { return Page(s, 4) },
		"Page of one": func() []api.Stamped { return Page(s[4:5], 4) },
	} {
		want, again := cloneStamps(call()), call()
		if len(want) == 0 {
			t.Errorf("%s: nothing", name)
		}
		scrawlStamps(call())
		if !sameStamps(again, want) || !sameStamps(call(), want) {
			t.Errorf("%s: two answers share memory", name)
		}
		for i := range again {
			scrawlRecord(&again[i].Record)
			if !sameStamps(again[i+1:], want[i+1:]) {
				t.Errorf("%s: the parts of an answer share memory", name)
			}
		}
		if !sameLogs(l, keptLogs) || !sameStamps(s, keptStamps) {
			t.Errorf("%s: an answer shares the argument's memory", name)
		}
	}
	for nodes := 2; nodes <= api.MaxNodes; nodes++ {
		got, errno := Split(right, nodes)
		again, _ := Split(right, nodes)
		want := cloneLogs(got)
		if errno != ok || len(got) != nodes {
			t.Errorf("Split among %d: %v, %d", nodes, got, errno)
		}
		for node := range got {
			scrawl(got[node])
			if !sameLogs(got[node+1:], want[node+1:]) {
				t.Errorf("Split among %d: the parts of an answer share memory", nodes)
			}
			got[node] = nil
		}
		_ = append(got, commits(78))
		if !sameLogs(again, want) || !sameStamps(s, keptStamps) {
			t.Errorf("Split among %d: an answer shares memory", nodes)
		}
	}
}

// The logs that Split tells share no memory: one can be written on behind
// without another one's being changed.
func TestSplitLogsAreApart(t *testing.T) {
	got, _ := Split(severalMerged(), 4)
	for node := range got {
		_ = append(got[node], commits(50, 51, 52, 53)...)
	}
	if !sameLogs(got, several()) {
		t.Errorf("Split: behind writing on: %v", got)
	}
}

func TestSortedIsNewMemory(t *testing.T) {
	for _, lists := range [][][]int{{{1, 2, 3}}, {{1, 2, 3}, nil}, {{1, 4}, {2, 5}}, {{1, 2}, {3, 4}}, {{}, {7}}} {
		kept := [][]int{}
		for _, l := range lists {
			kept = append(kept, slices.Clone(l))
		}
		got, again := Sorted(lists, less), Sorted(lists, less)
		want := slices.Clone(got)
		for i := range got {
			got[i] = 77
		}
		_ = append(got, 78)
		if !slices.Equal(again, want) {
			t.Errorf("Sorted(%v): two answers share memory", lists)
		}
		if !slices.EqualFunc(lists, kept, slices.Equal) {
			t.Errorf("Sorted(%v): the answer shares the argument's memory: %v", kept, lists)
		}
	}
}

// What was told stays, whatever becomes of what it was told of.
func TestAnswersStay(t *testing.T) {
	l, s := several(), severalMerged()
	all, _ := All(l)
	split, _ := Split(s, 4)
	page := Page(s, 4)
	wantedPage := cloneStamps(page)
	lists := [][]int{{1, 3}, {2}}
	sorted := Sorted(lists, less)
	for _, log := range l {
		scrawl(log)
	}
	scrawlStamps(s)
	lists[0][0], lists[0][1], lists[1][0] = 7, 7, 7
	if !sameStamps(all, severalMerged()) || !sameLogs(split, several()) || !sameStamps(page, wantedPage) {
		t.Error("an answer changed with what it was told of")
	}
	if !slices.Equal(sorted, []int{1, 2, 3}) {
		t.Errorf("Sorted changed with its lists: %v", sorted)
	}
}

// R6: the same again, whatever was asked ahead.
func TestSameAnswersAgain(t *testing.T) {
	var want []string
	for _, c := range scenes() {
		want = append(want, told(c.l, c.s, c.nodes, 4))
	}
	for i, c := range slices.Backward(scenes()) {
		if got := told(c.l, c.s, c.nodes, 4); got != want[i] {
			t.Errorf("%s: told otherwise: %s, not %s", c.name, got, want[i])
		}
	}
}

// R4: lists that are nil or empty are alike.
func TestNilAndEmpty(t *testing.T) {
	if told(nil, nil, 3, 4) != told(logs(), stamps(), 3, 4) {
		t.Error("nothing that is empty isn't as nil")
	}
	empty := func(r api.Record) api.Record {
		if len(r.Txns) == 0 {
			r.Txns = []api.TxnRow{}
		}
		if len(r.Dirty) == 0 {
			r.Dirty = []api.DirtyRow{}
		}
		return r
	}
	l, s := several(), severalMerged()
	for node, log := range l {
		if log == nil {
			l[node] = records()
		}
		for i, r := range log {
			log[i] = empty(r)
		}
	}
	for i := range s {
		s[i].Record = empty(s[i].Record)
	}
	if told(l, s, 4, 4) != told(several(), severalMerged(), 4, 4) {
		t.Error("lists that are empty aren't as those that are nil")
	}
}
