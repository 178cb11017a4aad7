package txn

import (
	"fmt"
	"math"
	"math/rand"
	"slices"
	"strings"
	"testing"

	"quayside/api"
	"quayside/change"
	"quayside/record"
)

const (
	ok   = api.OK
	form = api.ErrForm
	none = api.ErrNone

	top = math.MaxUint64
)

// noTxns are numbers below 1: nobody's, though checkpoints bear the 0.
var noTxns = []int{0, -1, -2, math.MinInt32, -1 << 32, math.MinInt}

func insert(slot int, value string) api.Change {
	return api.Change{Kind: api.Insert, Page: 1, Slot: slot, New: value}
}

func update(lsn uint64, txn int, prev uint64, c api.Change) api.Record {
	return api.Record{Kind: api.RUpdate, LSN: lsn, Txn: txn, Prev: prev, Change: c}
}

// put is an RUpdate whose change tells its number.
func put(lsn uint64, txn int, prev uint64) api.Record {
	return update(lsn, txn, prev, insert(int(lsn%api.Slots), fmt.Sprint(lsn)))
}

// back is an RClr as it stands in a log, of the change of put(of, ..).
func back(lsn uint64, txn int, prev, next, of uint64) api.Record {
	c := api.Change{Kind: api.Delete, Page: 1, Slot: int(of % api.Slots), Old: fmt.Sprint(of)}
	return api.Record{Kind: api.RClr, LSN: lsn, Txn: txn, Prev: prev, Next: next, Change: c}
}

// took is what Clr tells of put(of, txn, ..).
func took(txn int, of, next uint64) api.Record {
	return back(0, txn, 0, next, of)
}

func plain(kind int, lsn uint64, txn int, prev uint64) api.Record {
	r := api.Record{Kind: kind, LSN: lsn, Txn: txn, Prev: prev}
	if kind == api.RSave {
		r.Save = 1
	}
	return r
}

func begin(lsn uint64) api.Record {
	return api.Record{Kind: api.RBegin, LSN: lsn}
}

func check(lsn, begin uint64) api.Record {
	return api.Record{
		Kind: api.RCheck, LSN: lsn, Begin: begin,
		Txns:  []api.TxnRow{{Txn: 1, State: api.Running, First: 1, Last: 1, Next: 1}, {Txn: 2, State: api.Committed, First: 1, Last: 1}},
		Dirty: []api.DirtyRow{{Page: 1, Rec: 1}, {Page: 4, Rec: 1}},
	}
}

// example is the chapter's: update 3, savepoint 4, update 5, update 6.
func example() []api.Record {
	return []api.Record{put(3, 1, 0), plain(api.RSave, 4, 1, 3), put(5, 1, 4), put(6, 1, 5)}
}

// mixed has all kinds, and records of three transactions among each other.
func mixed() []api.Record {
	return []api.Record{
		put(2, 1, 0),
		put(3, 2, 0),
		plain(api.RSave, 4, 1, 2),
		begin(5),
		put(6, 1, 4),
		put(8, 2, 3),
		check(9, 5),
		back(10, 1, 6, 2, 6),
		put(11, 3, 0),
		plain(api.RAbort, 12, 2, 8),
		put(13, 1, 10),
		back(14, 2, 12, 3, 8),
		plain(api.RCommit, 15, 3, 11),
		plain(api.REnd, 20, 3, 15),
	}
}

func clone(l []api.Record) []api.Record {
	c := slices.Clone(l)
	for i, r := range c {
		c[i].Txns = slices.Clone(r.Txns)
		c[i].Dirty = slices.Clone(r.Dirty)
	}
	return c
}

func same(a, b []api.Record) bool {
	return slices.EqualFunc(a, b, record.Same)
}

func zero(r api.Record) bool {
	return record.Same(r, api.Record{})
}

// fault makes one record of a log such that it isn't right.
type fault struct {
	name string
	make func(*api.Record)
}

func faults() []fault {
	return []fault{
		{"no kind", func(r *api.Record) { r.Kind = 0 }},
		{"a kind below", func(r *api.Record) { r.Kind = -1 }},
		{"a kind above", func(r *api.Record) { r.Kind = api.RCheck + 1 }},
		{"no LSN", func(r *api.Record) { r.LSN = 0 }},
		{"an LSN above", func(r *api.Record) { r.LSN = api.MaxLSN + 1 }},
		{"the greatest LSN", func(r *api.Record) { r.LSN = top }},
		{"a Txn below", func(r *api.Record) { r.Txn = -1 }},
		{"a Txn above", func(r *api.Record) { r.Txn = api.MaxTxn + 1 }},
		{"its own Prev", func(r *api.Record) { r.Prev = r.LSN }},
		{"a Prev behind it", func(r *api.Record) { r.Prev = r.LSN + 1 }},
		{"its own Next", func(r *api.Record) { r.Next = r.LSN }},
		{"a Next behind it", func(r *api.Record) { r.Next = top }},
		{"a page above", func(r *api.Record) { r.Change.Page = api.MaxPages }},
		{"a slot above", func(r *api.Record) { r.Change.Slot = api.Slots }},
		{"no kind of change", func(r *api.Record) { r.Change.Kind = 4 }},
		{"a value too long", func(r *api.Record) { r.Change.New = strings.Repeat("x", api.MaxValue+1) }},
		{"a Save above", func(r *api.Record) { r.Save = api.MaxSaves + 1 }},
		{"its own Begin", func(r *api.Record) { r.Begin = r.LSN }},
		{"rows that don't rise", func(r *api.Record) {
			row := api.TxnRow{Txn: 1, State: api.Running, First: 1, Last: 1}
			r.Txns = []api.TxnRow{row, row}
		}},
		{"a dirty page above", func(r *api.Record) { r.Dirty = []api.DirtyRow{{Page: api.MaxPages, Rec: 1}} }},
	}
}

// noLog is records that are none, and why.
type noLog struct {
	name string
	l    []api.Record
}

// noLogs are logs each with one fault, at each place.
func noLogs() []noLog {
	var all []noLog
	for i := range mixed() {
		for _, f := range faults() {
			l := mixed()
			f.make(&l[i])
			all = append(all, noLog{fmt.Sprintf("%s at %d", f.name, i), l})
		}
	}
	for i := range mixed()[1:] {
		alike, falls, swapped, twice := mixed(), mixed(), mixed(), mixed()
		alike[i+1] = plain(api.RCommit, alike[i].LSN, 1, 0)
		falls[i+1] = plain(api.RCommit, falls[i].LSN-1, 1, 0)
		swapped[i], swapped[i+1] = swapped[i+1], swapped[i]
		twice = slices.Insert(twice, i, twice[i])
		all = append(all,
			noLog{fmt.Sprintf("alike at %d", i), alike},
			noLog{fmt.Sprintf("falls at %d", i), falls},
			noLog{fmt.Sprintf("swapped at %d", i), swapped},
			noLog{fmt.Sprintf("twice at %d", i), twice})
	}
	return all
}

// P15.1: Good.

func TestGood(t *testing.T) {
	logs := [][]api.Record{nil, {}, example(), mixed()}
	for i := range mixed() {
		logs = append(logs, mixed()[:i], mixed()[i:], mixed()[i:i+1], slices.Delete(mixed(), i, i+1))
	}
	for _, l := range logs {
		if !Good(l) {
			t.Errorf("Good(%v) is false", l)
		}
	}
}

func TestGoodOfNumbers(t *testing.T) {
	last := api.MaxLSN
	for _, c := range []struct {
		lsns []uint64
		want bool
	}{
		{[]uint64{1}, true},
		{[]uint64{1, 2, 3}, true},
		{[]uint64{1, last}, true},
		{[]uint64{last - 1, last}, true},
		{[]uint64{0}, false},
		{[]uint64{0, 1}, false},
		{[]uint64{1, 0}, false},
		{[]uint64{1, 1}, false},
		{[]uint64{2, 1}, false},
		{[]uint64{1, 2, 2}, false},
		{[]uint64{1, 3, 2}, false},
		{[]uint64{2, 3, 1, 4}, false},
		{[]uint64{last, last}, false},
		{[]uint64{last, last + 1}, false},
		{[]uint64{last, 1}, false},
		{[]uint64{1, top}, false},
	} {
		var l []api.Record
		for _, n := range c.lsns {
			l = append(l, begin(n))
		}
		if got := Good(l); got != c.want {
			t.Errorf("Good of the LSNs %v: %v", c.lsns, got)
		}
	}
}

// A Prev, a Next and a Begin may name what isn't there: each record by itself
// is right.
func TestGoodOfLooseChains(t *testing.T) {
	l := []api.Record{put(5, 1, 4), back(6, 1, 1, 2, 3), plain(api.RCommit, 9, 2, 8), check(12, 11)}
	if !Good(l) {
		t.Error("a log whose chains are loose is none")
	}
}

func TestGoodOfNoLogs(t *testing.T) {
	for _, c := range noLogs() {
		if Good(c.l) {
			t.Errorf("Good of %s", c.name)
		}
	}
}

// P15.1: Get.

func TestGet(t *testing.T) {
	l := mixed()
	for _, r := range mixed() {
		if got, found := Get(l, r.LSN); !found || !record.Same(got, r) {
			t.Errorf("Get(%d): %v, %v", r.LSN, got, found)
		}
	}
	for _, n := range []uint64{0, 1, 7, 16, 19, 21, 2 + 1<<32, api.MaxLSN, top} {
		if got, found := Get(l, n); found || !zero(got) {
			t.Errorf("Get(%d): %v, %v", n, got, found)
		}
	}
	for _, n := range []uint64{0, 1, top} {
		if got, found := Get(nil, n); found || !zero(got) {
			t.Errorf("Get of no records, %d: %v, %v", n, got, found)
		}
	}
}

// Get asks for no log: it takes the first of two, wherever they stand, and what
// isn't right as well.
func TestGetOfNoLog(t *testing.T) {
	l := []api.Record{put(5, 1, 0), put(9, 1, 5), plain(api.RCommit, 5, 2, 0), {Kind: -3, Save: 7}, {Txn: 4}, put(2, 3, 0), put(9, 2, 0), {LSN: top, Txn: -1}}
	for n, i := range map[uint64]int{5: 0, 9: 1, 0: 3, 2: 5, top: 7} {
		if got, found := Get(l, n); !found || !record.Same(got, l[i]) {
			t.Errorf("Get(%d): %v, %v", n, got, found)
		}
	}
	if got, found := Get(l, 3); found || !zero(got) {
		t.Errorf("Get(3): %v, %v", got, found)
	}
}

// P15.1: Last.

func TestLast(t *testing.T) {
	l := mixed()
	for txn, want := range map[int]uint64{1: 13, 2: 14, 3: 20, 4: 0, api.MaxTxn: 0, api.MaxTxn + 1: 0, 1 + 1<<32: 0, math.MaxInt: 0} {
		if got := Last(l, txn); got != want {
			t.Errorf("Last(%d): %d, not %d", txn, got, want)
		}
	}
	for i, r := range l {
		if r.Txn > 0 {
			if got := Last(l[:i+1], r.Txn); got != r.LSN {
				t.Errorf("Last(%d) of the first %d: %d, not %d", r.Txn, i+1, got, r.LSN)
			}
		}
	}
}

func TestLastOfNone(t *testing.T) {
	l := append(mixed(), begin(21), check(22, 21))
	for _, txn := range noTxns {
		l = append(l, plain(api.RCommit, 30, txn, 0))
	}
	for _, txn := range noTxns {
		if got := Last(l, txn); got != 0 {
			t.Errorf("Last(%d): %d", txn, got)
		}
	}
	for _, txn := range append(noTxns, 1, 2) {
		if got := Last(nil, txn); got != 0 {
			t.Errorf("Last of no records, %d: %d", txn, got)
		}
	}
}

// Last asks for no log: the last one is the one that stands last.
func TestLastOfNoLog(t *testing.T) {
	l := []api.Record{{LSN: 9, Txn: 1}, {LSN: 4, Txn: 2}, {LSN: 3, Txn: 1}, {LSN: top, Txn: api.MaxTxn + 5}, {LSN: 0, Txn: 6}}
	for txn, want := range map[int]uint64{1: 3, 2: 4, api.MaxTxn + 5: top, 6: 0} {
		if got := Last(l, txn); got != want {
			t.Errorf("Last(%d): %d, not %d", txn, got, want)
		}
	}
}

// P15.2: Next.

func wantNext(t *testing.T, l []api.Record, at, want uint64) {
	t.Helper()
	if got, errno := Next(l, at); got != want || errno != ok {
		t.Errorf("Next(%d): %d, %d, not %d", at, got, errno, want)
	}
}

func TestNext(t *testing.T) {
	l := mixed()
	for at, want := range map[uint64]uint64{
		0: 0, 1: 0, 7: 0, 16: 0, 21: 0, api.MaxLSN: 0, top: 0,
		2: 2, 3: 3, 6: 6, 8: 8, 11: 11, 13: 13, // the changes themselves
		10: 2, 14: 3, // what was taken back: what comes next
		4: 2, 12: 8, 15: 11, 20: 11, // others: what stands ahead
		5: 0, 9: 0, // checkpoints, which are nobody's
	} {
		wantNext(t, l, at, want)
	}
	for _, at := range []uint64{0, 1, top} {
		wantNext(t, nil, at, 0)
		wantNext(t, []api.Record{}, at, 0)
	}
}

// Each kind that isn't a change, ahead of each kind.
func TestNextByKinds(t *testing.T) {
	for _, kind := range []int{api.RCommit, api.RAbort, api.REnd, api.RSave} {
		l := []api.Record{put(1, 1, 0), begin(2), check(3, 2), back(4, 1, 1, 0, 1), back(5, 1, 4, 1, 1), plain(kind, 6, 1, 0)}
		for prev, want := range map[uint64]uint64{0: 0, 1: 1, 2: 0, 3: 0, 4: 0, 5: 1, 6: 0} {
			l := append(clone(l), plain(kind, 7, 1, prev))
			wantNext(t, l, 7, want)
		}
	}
	for next, want := range map[uint64]uint64{0: 0, 1: 1, 2: 1, 3: 1, 4: 0, 5: 0, 6: 0} {
		l := []api.Record{put(1, 1, 0), plain(api.RSave, 2, 1, 1), back(3, 1, 2, 1, 1), back(4, 1, 3, 0, 1), begin(5)}
		wantNext(t, append(l, put(7, 1, 4), back(8, 1, 7, next, 7)), 8, want)
	}
}

// An RClr leads by its Next alone, another record by its Prev alone.
func TestNextTakesOneWay(t *testing.T) {
	l := []api.Record{put(1, 1, 0), put(2, 1, 1), put(3, 1, 2), back(4, 1, 3, 1, 3), back(5, 1, 2, 0, 2), plain(api.RSave, 6, 1, 2)}
	wantNext(t, l, 4, 1)
	wantNext(t, l, 5, 0)
	wantNext(t, l, 6, 2)
}

// A chain that leads to another transaction is followed there.
func TestNextOfAnotherTransaction(t *testing.T) {
	l := []api.Record{put(1, 2, 0), plain(api.RSave, 2, 1, 1), back(3, 3, 0, 2, 9), plain(api.RAbort, 4, 4, 3)}
	for at := uint64(1); at <= 4; at++ {
		wantNext(t, l, at, 1)
	}
}

// P15.2: Clr.

func TestClr(t *testing.T) {
	l := mixed()
	for _, want := range []struct {
		n uint64
		r api.Record
	}{
		{2, took(1, 2, 0)}, {3, took(2, 3, 0)}, {6, took(1, 6, 2)},
		{8, took(2, 8, 3)}, {11, took(3, 11, 0)}, {13, took(1, 13, 2)},
	} {
		if got, errno := Clr(l, want.n); errno != ok || !record.Same(got, want.r) {
			t.Errorf("Clr(%d): %v, %d, not %v", want.n, got, errno, want.r)
		}
	}
}

// All of what Clr tells, for each kind of change, with all else of the record
// other than 0.
func TestClrOfEachChange(t *testing.T) {
	long := strings.Repeat("z", api.MaxValue)
	for _, c := range []struct{ made, back api.Change }{
		{api.Change{Kind: api.Insert, Page: 31, Slot: 7, New: "a"}, api.Change{Kind: api.Delete, Page: 31, Slot: 7, Old: "a"}},
		{api.Change{Kind: api.Insert, Page: 3}, api.Change{Kind: api.Delete, Page: 3}},
		{api.Change{Kind: api.Delete, Slot: 5, Old: long}, api.Change{Kind: api.Insert, Slot: 5, New: long}},
		{api.Change{Kind: api.Update, Page: 2, Slot: 1, Old: "a", New: "b"}, api.Change{Kind: api.Update, Page: 2, Slot: 1, Old: "b", New: "a"}},
		{api.Change{Kind: api.Update, Page: 2, Slot: 1, Old: "", New: long}, api.Change{Kind: api.Update, Page: 2, Slot: 1, Old: long}},
		{api.Change{Kind: api.Update}, api.Change{Kind: api.Update}},
	} {
		l := []api.Record{put(4, api.MaxTxn, 0), plain(api.RSave, 5, api.MaxTxn, 4), update(api.MaxLSN, api.MaxTxn, 5, c.made)}
		want := api.Record{Kind: api.RClr, Txn: api.MaxTxn, Change: c.back, Next: 4}
		if got, errno := Clr(l, api.MaxLSN); errno != ok || !record.Same(got, want) {
			t.Errorf("Clr of %v: %v, %d, not %v", c.made, got, errno, want)
		}
	}
}

func TestClrOfNone(t *testing.T) {
	l := mixed()
	for _, n := range []uint64{0, 1, 4, 5, 7, 9, 10, 12, 14, 15, 16, 20, 21, 2 + 1<<32, api.MaxLSN, top} {
		if got, errno := Clr(l, n); errno != none || !zero(got) {
			t.Errorf("Clr(%d): %v, %d", n, got, errno)
		}
	}
	for _, n := range []uint64{0, 1, top} {
		if got, errno := Clr(nil, n); errno != none || !zero(got) {
			t.Errorf("Clr of no records, %d: %v, %d", n, got, errno)
		}
	}
}

// Clr of a change that was taken back already still is one: it looks at the
// change alone.
func TestClrOfWhatIsTakenBack(t *testing.T) {
	l := append(example(), back(7, 1, 6, 5, 6))
	if got, errno := Clr(l, 6); errno != ok || !record.Same(got, took(1, 6, 5)) {
		t.Errorf("Clr: %v, %d", got, errno)
	}
}

// P15.3: Plan.

func wantPlan(t *testing.T, l []api.Record, txn int, upto uint64, want ...api.Record) {
	t.Helper()
	if got, errno := Plan(l, txn, upto); errno != ok || !same(got, want) {
		t.Errorf("Plan(%d, %d): %v, %d, not %v", txn, upto, got, errno, want)
	}
}

// The chapter's example.
func TestPlanExample(t *testing.T) {
	l := example()
	wantPlan(t, l, 1, 4, took(1, 6, 5), took(1, 5, 3))
	wantPlan(t, append(l, back(7, 1, 6, 5, 6)), 1, 4, took(1, 5, 3))
}

// An upto of 0, at, between and above the changes.
func TestPlanUpto(t *testing.T) {
	l := []api.Record{put(3, 1, 0), plain(api.RSave, 5, 1, 3), put(7, 1, 5), put(9, 1, 7)}
	all := []api.Record{took(1, 9, 7), took(1, 7, 3), took(1, 3, 0)}
	for upto, n := range map[uint64]int{0: 3, 1: 3, 2: 3, 3: 2, 4: 2, 5: 2, 6: 2, 7: 1, 8: 1, 9: 0, 10: 0, api.MaxLSN: 0, top: 0} {
		wantPlan(t, l, 1, upto, all[:n]...)
	}
}

func TestPlanOfMixed(t *testing.T) {
	l := mixed()
	wantPlan(t, l, 1, 0, took(1, 13, 2), took(1, 2, 0))
	wantPlan(t, l, 1, 2, took(1, 13, 2))
	wantPlan(t, l, 1, 6, took(1, 13, 2))
	wantPlan(t, l, 1, 13)
	wantPlan(t, l, 2, 0, took(2, 3, 0))
	wantPlan(t, l, 2, 3)
	wantPlan(t, l, 3, 0, took(3, 11, 0))
}

// Nobody's, and of those who changed nothing.
func TestPlanOfNone(t *testing.T) {
	l := append(mixed(), plain(api.RSave, 21, 5, 0), plain(api.RAbort, 22, 5, 21), plain(api.REnd, 23, 6, 0), begin(24), check(25, 24))
	for _, txn := range append(noTxns, 4, 5, 6, api.MaxTxn, api.MaxTxn+1, 1+1<<32, math.MaxInt) {
		for _, upto := range []uint64{0, 1, top} {
			wantPlan(t, l, txn, upto)
			wantPlan(t, nil, txn, upto)
		}
	}
	wantPlan(t, nil, 1, 0)
	wantPlan(t, []api.Record{}, 1, 0)
}

// All that was taken back is not taken back once more; what came behind it is.
func TestPlanBehindTakingBack(t *testing.T) {
	l := []api.Record{put(1, 1, 0), put(2, 1, 1), back(3, 1, 2, 1, 2), put(4, 1, 3), back(5, 1, 4, 1, 4), back(6, 1, 5, 0, 1)}
	wantPlan(t, l, 1, 0)
	wantPlan(t, l[:5], 1, 0, took(1, 1, 0))
	wantPlan(t, l[:4], 1, 0, took(1, 4, 1), took(1, 1, 0))
	wantPlan(t, l[:3], 1, 0, took(1, 1, 0))
	l = append(l, put(7, 1, 6), plain(api.RCommit, 8, 1, 7))
	wantPlan(t, l, 1, 0, took(1, 7, 0))
}

// Where the chain leads to another transaction, so does Plan: each record is
// that transaction's whose change it takes back.
func TestPlanOfAnotherTransaction(t *testing.T) {
	l := []api.Record{put(1, 3, 0), put(2, 2, 1), put(3, 1, 2)}
	wantPlan(t, l, 1, 0, took(1, 3, 2), took(2, 2, 1), took(3, 1, 0))
}

// Of a chain that leads to where nothing is the rest is left out.
func TestPlanOfLooseChain(t *testing.T) {
	l := []api.Record{put(1, 1, 0), put(4, 1, 3), put(5, 1, 4), back(7, 1, 6, 6, 5)}
	wantPlan(t, l, 1, 0)
	wantPlan(t, l[:3], 1, 0, took(1, 5, 4), took(1, 4, 0))
	wantPlan(t, l[:1], 1, 0, took(1, 1, 0))
}

// P15.2, P15.3, R1, R2: of what is no log all of them are ErrForm, ahead of all
// else, whatever is asked for.
func TestNoLog(t *testing.T) {
	for _, c := range noLogs() {
		for _, n := range []uint64{0, 2, 4, 6, 13, 20, 99, top} {
			if got, errno := Next(c.l, n); errno != form || got != 0 {
				t.Errorf("%s: Next(%d): %d, %d", c.name, n, got, errno)
			}
			if got, errno := Clr(c.l, n); errno != form || !zero(got) {
				t.Errorf("%s: Clr(%d): %v, %d", c.name, n, got, errno)
			}
		}
		for _, txn := range []int{0, 1, 2, 9, -1} {
			for _, upto := range []uint64{0, 6, top} {
				if got, errno := Plan(c.l, txn, upto); errno != form || len(got) != 0 {
					t.Errorf("%s: Plan(%d, %d): %v, %d", c.name, txn, upto, got, errno)
				}
			}
		}
	}
}

// seen is, for each LSN of a log, what is to be taken back next seen from it,
// told forwards: what a record names stands ahead of it.
func seen(l []api.Record) map[uint64]uint64 {
	all := map[uint64]uint64{}
	for _, r := range l {
		switch r.Kind {
		case api.RUpdate:
			all[r.LSN] = r.LSN
		case api.RClr:
			all[r.LSN] = all[r.Next]
		default:
			all[r.LSN] = all[r.Prev]
		}
	}
	return all
}

// planned is a Plan by the words of the chapter, out of what seen tells.
func planned(l []api.Record, txn int, upto uint64) []api.Record {
	last := uint64(0)
	by := map[uint64]api.Record{}
	for _, r := range l {
		by[r.LSN] = r
		if r.Txn == txn && txn > 0 {
			last = r.LSN
		}
	}
	look := seen(l)
	var all []api.Record
	for n := look[last]; n > upto; n = look[by[n].Prev] {
		all = append(all, api.Record{Kind: api.RClr, Txn: by[n].Txn, Change: inverse(by[n].Change), Next: look[by[n].Prev]})
	}
	return all
}

func inverse(c api.Change) api.Change {
	kinds := map[int]int{api.Insert: api.Delete, api.Delete: api.Insert, api.Update: api.Update}
	return api.Change{Kind: kinds[c.Kind], Page: c.Page, Slot: c.Slot, Old: c.New, New: c.Old}
}

// holdsWords holds all calls of a log against the words.
func holdsWords(t *testing.T, l []api.Record, most uint64, txns int) {
	t.Helper()
	look := seen(l)
	for at := range most + 1 {
		if got, errno := Next(l, at); got != look[at] || errno != ok {
			t.Fatalf("%v: Next(%d): %d, %d, not %d", l, at, got, errno, look[at])
		}
		got, errno := Clr(l, at)
		i := slices.IndexFunc(l, func(r api.Record) bool { return r.LSN == at && r.Kind == api.RUpdate })
		if i < 0 {
			if errno != none || !zero(got) {
				t.Fatalf("%v: Clr(%d): %v, %d", l, at, got, errno)
			}
			continue
		}
		want := api.Record{Kind: api.RClr, Txn: l[i].Txn, Change: inverse(l[i].Change), Next: look[l[i].Prev]}
		if errno != ok || !record.Same(got, want) {
			t.Fatalf("%v: Clr(%d): %v, %d, not %v", l, at, got, errno, want)
		}
	}
	for txn := range txns + 2 {
		for upto := range most + 1 {
			want := planned(l, txn, upto)
			if got, errno := Plan(l, txn, upto); errno != ok || !same(got, want) {
				t.Fatalf("%v: Plan(%d, %d): %v, %d, not %v", l, txn, upto, got, errno, want)
			}
		}
	}
}

// each goes through all records of a number: all kinds, two transactions, all
// Prevs and Nexts, those that lead nowhere among them.
func each(lsn uint64, do func(api.Record)) {
	for txn := 1; txn <= 2; txn++ {
		for prev := range lsn {
			do(put(lsn, txn, prev))
			do(plain(api.RSave, lsn, txn, prev))
			for next := range lsn {
				do(back(lsn, txn, prev, next, lsn))
			}
		}
	}
	do(begin(lsn))
}

// P15.2, P15.3, R1: all logs of up to three records, with a gap in their LSNs
// or without, whose chains fit together or don't.
func TestAllSmallLogs(t *testing.T) {
	for _, lsns := range [][]uint64{{1, 2, 3}, {1, 3, 4}, {2, 3, 4}} {
		each(lsns[0], func(a api.Record) {
			holdsWords(t, []api.Record{a}, 5, 2)
			each(lsns[1], func(b api.Record) {
				holdsWords(t, []api.Record{a, b}, 5, 2)
				each(lsns[2], func(c api.Record) {
					holdsWords(t, []api.Record{a, b, c}, 5, 2)
				})
			})
		})
	}
}

// randomLog has chains that lead anywhere below.
func randomLog(rnd *rand.Rand, n, txns int) []api.Record {
	var l []api.Record
	lsn := uint64(0)
	for range n {
		lsn += 1 + uint64(rnd.Intn(3)*rnd.Intn(2))
		txn, prev, next := 1+rnd.Intn(txns), uint64(rnd.Int63n(int64(lsn))), uint64(rnd.Int63n(int64(lsn)))
		switch kind := 1 + rnd.Intn(8); {
		case kind == api.RUpdate || rnd.Intn(3) == 0:
			l = append(l, update(lsn, txn, prev, randomChange(rnd)))
		case kind == api.RClr:
			r := back(lsn, txn, prev, next, 0)
			r.Change = randomChange(rnd)
			l = append(l, r)
		case kind == api.RCheck && lsn > 2:
			l = append(l, check(lsn, 1+uint64(rnd.Int63n(int64(lsn-1)))))
		case kind >= api.RBegin:
			l = append(l, begin(lsn))
		default:
			l = append(l, plain(kind, lsn, txn, prev))
		}
	}
	return l
}

func randomChange(rnd *rand.Rand) api.Change {
	c := api.Change{Kind: 1 + rnd.Intn(3), Page: rnd.Intn(api.MaxPages), Slot: rnd.Intn(api.Slots)}
	if c.Kind != api.Insert {
		c.Old = strings.Repeat("o", rnd.Intn(api.MaxValue+1))
	}
	if c.Kind != api.Delete {
		c.New = strings.Repeat("n", rnd.Intn(api.MaxValue+1))
	}
	return c
}

func TestRandomLogs(t *testing.T) {
	rnd := rand.New(rand.NewSource(15))
	for range 300 {
		l := randomLog(rnd, rnd.Intn(40), 3)
		if !Good(l) {
			t.Fatalf("no log: %v", l)
		}
		holdsWords(t, l, Last(l, 1)+Last(l, 2)+2, 3)
	}
}

// R1: a long way, of savepoints and of changes, comes to its end.
func TestLongWay(t *testing.T) {
	const n = 1 << 15
	l := []api.Record{put(1, 1, 0)}
	for lsn := uint64(2); lsn <= n; lsn++ {
		l = append(l, plain(api.RSave, lsn, 1, lsn-1))
	}
	wantNext(t, l, n, 1)
	for lsn := uint64(n + 1); lsn <= 2*n; lsn++ {
		l = append(l, put(lsn, 1, lsn-1))
	}
	p, errno := Plan(l, 1, 0)
	if errno != ok || len(p) != n+1 {
		t.Fatalf("Plan: %d records, %d", len(p), errno)
	}
	for i, r := range p[:n] {
		of, next := uint64(2*n-i), uint64(2*n-i-1)
		if i == n-1 {
			next = 1
		}
		if !record.Same(r, took(1, of, next)) {
			t.Fatalf("Plan, %d: %v", i, r)
		}
	}
	if !record.Same(p[n], took(1, 1, 0)) {
		t.Errorf("Plan's last: %v", p[n])
	}
}

// P15.4.

// pages are all that the transactions of a yard change.
type pages [2]api.Page

func (p *pages) apply(t *testing.T, c api.Change, lsn uint64) {
	t.Helper()
	q, errno := change.Apply(p[c.Page], c, lsn)
	if errno != ok {
		t.Fatalf("%v is refused: %d", c, errno)
	}
	p[c.Page] = q
}

// cells are those of one transaction alone: no other one changes them till it
// is over.
func (p *pages) cells(lane int) []api.Cell {
	var all []api.Cell
	for _, q := range p {
		for slot, c := range q.Cells {
			if slot%lanes == lane {
				all = append(all, c)
			}
		}
	}
	return all
}

// lanes is how many transactions run at one time, each on cells of its own.
const lanes = 3

// moment is what a transaction's cells were when it had come to an LSN.
type moment struct {
	lsn   uint64
	cells []api.Cell
}

// runner is a transaction on its way. It is being taken back as far as upto, if
// back is true. Its moments are those to which it can still be taken back.
type runner struct {
	txn     int
	last    uint64
	moments []moment
	back    bool
	ends    bool
	upto    uint64
}

// yard is a log in the making, with the pages that it makes.
type yard struct {
	t     *testing.T
	rnd   *rand.Rand
	log   []api.Record
	pages pages
	lsn   uint64
	txns  int
	lanes [lanes]runner
}

func newYard(t *testing.T, seed int64) *yard {
	y := &yard{t: t, rnd: rand.New(rand.NewSource(seed))}
	for lane := range lanes {
		y.start(lane)
	}
	return y
}

func (y *yard) start(lane int) {
	y.txns++
	y.lanes[lane] = runner{txn: y.txns, moments: []moment{{0, y.pages.cells(lane)}}}
}

// write puts a record behind the log, as the transaction's of a lane, and makes
// its change.
func (y *yard) write(lane int, r api.Record) {
	y.t.Helper()
	x := &y.lanes[lane]
	y.lsn += 1 + uint64(y.rnd.Intn(2))
	r.LSN, r.Txn, r.Prev = y.lsn, x.txn, x.last
	if r.Kind == api.RUpdate || r.Kind == api.RClr {
		y.pages.apply(y.t, r.Change, r.LSN)
	}
	y.log = append(y.log, r)
	x.last = r.LSN
}

// remember keeps a moment, unless nothing was written since the last one.
func (y *yard) remember(lane int) {
	x := &y.lanes[lane]
	if x.moments[len(x.moments)-1].lsn == x.last {
		return
	}
	x.moments = append(x.moments, moment{x.last, y.pages.cells(lane)})
}

// step does something in a lane.
func (y *yard) step(lane int) {
	x := &y.lanes[lane]
	if x.back {
		y.stepBack(lane)
		return
	}
	switch y.rnd.Intn(12) {
	case 0:
		y.write(lane, plain(api.RSave, 0, 0, 0))
		y.remember(lane)
	case 1, 2:
		m := x.moments[y.rnd.Intn(len(x.moments))]
		x.back, x.upto = true, m.lsn
	case 3:
		y.write(lane, plain(api.RAbort, 0, 0, 0))
		x.back, x.ends, x.upto = true, true, 0
	case 4:
		y.write(lane, plain(api.RCommit, 0, 0, 0))
		y.remember(lane)
		y.holds(lane)
		y.write(lane, plain(api.REnd, 0, 0, 0))
		y.start(lane)
	case 5:
		y.lsn += 2
		y.log = append(y.log, begin(y.lsn-1), check(y.lsn, y.lsn-1))
	default:
		y.change(lane)
		y.remember(lane)
	}
}

func (y *yard) change(lane int) {
	id, slot := y.rnd.Intn(len(y.pages)), lane+lanes*y.rnd.Intn((api.Slots-lane+lanes-1)/lanes)
	from, to := y.pages[id].Cells[slot], api.Cell{}
	if !from.Used || y.rnd.Intn(3) > 0 {
		to = api.Cell{Used: true, Value: fmt.Sprint(y.rnd.Intn(100))}
	}
	c, errno := change.Of(id, slot, from, to)
	if errno != ok {
		y.t.Fatalf("Of: %d", errno)
	}
	y.write(lane, update(0, 0, 0, c))
}

// stepBack takes one change back, as Plan tells, or is done with that.
func (y *yard) stepBack(lane int) {
	x := &y.lanes[lane]
	p, errno := Plan(y.log, x.txn, x.upto)
	if errno != ok {
		y.t.Fatalf("Plan: %d", errno)
	}
	x.moments = slices.DeleteFunc(x.moments, func(m moment) bool { return m.lsn > x.upto })
	if len(p) > 0 {
		y.write(lane, p[0])
		return
	}
	x.back = false
	y.remember(lane)
	if x.ends {
		y.holds(lane)
		y.write(lane, plain(api.REnd, 0, 0, 0))
		y.start(lane)
	}
}

// holds holds the Plan of a lane's transaction, to each moment to which it can
// come back, against what its cells were then, and against the Plans behind its
// first records.
func (y *yard) holds(lane int) {
	y.t.Helper()
	x := y.lanes[lane]
	for i, m := range x.moments {
		if x.back && m.lsn > x.upto {
			break
		}
		p, errno := Plan(y.log, x.txn, m.lsn)
		if errno != ok {
			y.t.Fatalf("Plan(%d, %d): %d", x.txn, m.lsn, errno)
		}
		y.holdsRests(lane, m.lsn, p)
		y.holdsCells(lane, m, p)
		end := y.lsn
		if i+1 < len(x.moments) {
			end = x.moments[i+1].lsn - 1
		}
		if x.back || x.ends {
			end = m.lsn
		}
		for upto := m.lsn + 1; upto <= end; upto++ {
			if q, _ := Plan(y.log, x.txn, upto); !same(q, p) {
				y.t.Fatalf("Plan(%d, %d): %v, not %v", x.txn, upto, q, p)
			}
		}
	}
}

// holdsRests: behind the first k records of a Plan, as a log has them, the Plan
// is the rest.
func (y *yard) holdsRests(lane int, upto uint64, p []api.Record) {
	y.t.Helper()
	x := y.lanes[lane]
	l, lsn, last := clone(y.log), y.lsn, x.last
	for k := range p {
		r := p[k]
		lsn += 3
		r.LSN, r.Prev = lsn, last
		last = lsn
		l = append(l, r, begin(lsn+1))
		if q, errno := Plan(l, x.txn, upto); errno != ok || !same(q, p[k+1:]) {
			y.t.Fatalf("Plan(%d, %d) behind %d: %v, %d, not %v", x.txn, upto, k+1, q, errno, p[k+1:])
		}
	}
}

// holdsCells: what a Plan makes of the pages is what they were, and what other
// transactions made stays.
func (y *yard) holdsCells(lane int, m moment, p []api.Record) {
	y.t.Helper()
	now, lsn := y.pages, y.lsn
	for _, r := range p {
		if r.Kind != api.RClr || r.Txn != y.lanes[lane].txn || r.LSN != 0 || r.Prev != 0 {
			y.t.Fatalf("Plan(%d, %d) has %v", y.lanes[lane].txn, m.lsn, r)
		}
		lsn++
		now.apply(y.t, r.Change, lsn)
	}
	if !slices.Equal(now.cells(lane), m.cells) {
		y.t.Fatalf("Plan(%d, %d) comes to %v, not %v", y.lanes[lane].txn, m.lsn, now.cells(lane), m.cells)
	}
	for other := range lanes {
		if other != lane && !slices.Equal(now.cells(other), y.pages.cells(other)) {
			y.t.Fatalf("Plan(%d, %d) changes others' cells", y.lanes[lane].txn, m.lsn)
		}
	}
}

// Transactions whose records stand mixed, with savepoints, part of them taken
// back, aborted, committed, with checkpoints between.
func TestPlanTakesBack(t *testing.T) {
	for seed := range int64(12) {
		y := newYard(t, seed)
		for range 150 {
			y.step(y.rnd.Intn(lanes))
			for lane := range lanes {
				y.holds(lane)
			}
		}
		if !Good(y.log) {
			t.Fatalf("no log: %v", y.log)
		}
	}
}

// A transaction that was taken back to a savepoint, and went on, is taken back
// to that savepoint once more, and then whole.
func TestPlanToASavepointTwice(t *testing.T) {
	l := []api.Record{put(1, 1, 0), plain(api.RSave, 2, 1, 1), put(3, 1, 2), back(4, 1, 3, 1, 3), put(5, 1, 4), put(6, 1, 5)}
	wantPlan(t, l, 1, 2, took(1, 6, 5), took(1, 5, 1))
	l = append(l, back(7, 1, 6, 5, 6), back(8, 1, 7, 1, 5))
	wantPlan(t, l, 1, 2)
	wantPlan(t, l, 1, 0, took(1, 1, 0))
}

// R3, R6.

// told is all that the calls answer of a log, as a text.
func told(l []api.Record) string {
	var all []string
	tell := func(x ...any) { all = append(all, fmt.Sprint(x...)) }
	tell(Good(l))
	for n := range uint64(25) {
		r, found := Get(l, n)
		tell(r, found)
		next, errno := Next(l, n)
		tell(next, errno)
		r, errno = Clr(l, n)
		tell(r, errno)
	}
	for txn := range 5 {
		tell(Last(l, txn))
		for upto := range uint64(25) {
			p, errno := Plan(l, txn, upto)
			tell(p, errno)
		}
	}
	return strings.Join(all, "\n")
}

// What goes in stays, and what lies behind its length is neither read nor
// written.
func TestArgumentsStay(t *testing.T) {
	logs := [][]api.Record{nil, example(), mixed()}
	for _, c := range noLogs() {
		logs = append(logs, c.l)
	}
	for _, l := range logs {
		want := told(clone(l))
		tail := []api.Record{put(21, 1, 1), check(22, 21), plain(api.RCommit, 3, 4, 0)}
		long := append(clone(l), tail...)
		if got := told(long[:len(l)]); got != want {
			t.Errorf("%v: what lies behind is read", l)
		}
		if !same(long[:len(l)], l) {
			t.Errorf("%v became %v", l, long[:len(l)])
		}
		if !same(long[len(l):], tail) {
			t.Errorf("%v: what lies behind became %v", l, long[len(l):])
		}
	}
}

// A record that was told has rows of its own.
func TestGetIsNewMemory(t *testing.T) {
	l := mixed()
	got, _ := Get(l, 9)
	again, _ := Get(l, 9)
	for i := range got.Txns {
		got.Txns[i] = api.TxnRow{Txn: 77}
	}
	for i := range got.Dirty {
		got.Dirty[i] = api.DirtyRow{Page: 77}
	}
	got.Txns, got.Dirty = append(got.Txns, api.TxnRow{}), append(got.Dirty, api.DirtyRow{})
	if !same(l, mixed()) {
		t.Error("what was told is the log's own memory")
	}
	if !record.Same(again, check(9, 5)) {
		t.Error("what was told twice is one memory")
	}
}

// So has one behind whose rows there is more in the list's memory.
func TestGetLeavesWhatLiesBehindRows(t *testing.T) {
	r := check(9, 5)
	txns, dirty := r.Txns, r.Dirty
	r.Txns, r.Dirty = txns[:1], dirty[:1]
	got, _ := Get([]api.Record{r}, 9)
	got.Txns = append(got.Txns, api.TxnRow{Txn: 77})
	got.Dirty = append(got.Dirty, api.DirtyRow{Page: 77})
	want := check(9, 5)
	if !slices.Equal(txns, want.Txns) || !slices.Equal(dirty, want.Dirty) {
		t.Error("what was told is grown into the log's memory")
	}
}

func TestPlanIsNewMemory(t *testing.T) {
	l := mixed()
	got, _ := Plan(l, 1, 0)
	again, _ := Plan(l, 1, 0)
	for i := range got {
		got[i] = api.Record{Kind: 77}
	}
	if !same(l, mixed()) || !same(again, planned(mixed(), 1, 0)) {
		t.Error("what was planned is other memory's")
	}
}

// What is told hangs on the records alone, not on what was asked ahead, nor on
// what becomes of the list behind it.
func TestSameAnswersAgain(t *testing.T) {
	l := mixed()
	want := told(l)
	p, _ := Plan(l, 1, 0)
	for i := range l {
		l[i] = begin(uint64(i) + 1)
	}
	if !same(p, planned(mixed(), 1, 0)) {
		t.Error("a Plan changed with its log")
	}
	told(l)
	if got := told(mixed()); got != want {
		t.Error("the same log is told otherwise")
	}
}

// R4: rows and records that are nil or empty are alike.
func TestNilAndEmpty(t *testing.T) {
	with := func(txns []api.TxnRow, dirty []api.DirtyRow) []api.Record {
		l := mixed()
		for i := range l {
			l[i].Txns, l[i].Dirty = txns, dirty
		}
		return l
	}
	bare, empty := with(nil, nil), with([]api.TxnRow{}, []api.DirtyRow{})
	if !Good(bare) || !Good(empty) || told(bare) != told(empty) {
		t.Error("rows that are empty aren't as those that are nil")
	}
	if told(nil) != told([]api.Record{}) {
		t.Error("no records aren't as nil")
	}
}
