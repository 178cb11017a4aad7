package record

import (
	"bytes"
	"encoding/binary"
	"math"
	"math/rand"
	"reflect"
	"strings"
	"testing"

	"quayside/api"
	"quayside/change"
)

const maxLSN = api.MaxLSN

var allKinds = []int{api.RUpdate, api.RClr, api.RCommit, api.RAbort, api.REnd, api.RSave, api.RBegin, api.RCheck}

func long(n int) string {
	return strings.Repeat("v", n)
}

// plain is an ordinary right record of a kind.
func plain(kind int) api.Record {
	r := api.Record{Kind: kind, LSN: 9}
	switch kind {
	case api.RBegin:
		return r
	case api.RCheck:
		r.Begin = 8
		r.Txns = []api.TxnRow{{Txn: 1, State: api.Running, First: 2, Last: 5, Next: 4}, {Txn: 7, State: api.Committed, First: 3, Last: 3}}
		r.Dirty = []api.DirtyRow{{Page: 0, Rec: 2}, {Page: 4, Rec: 8}}
		return r
	}
	r.Txn, r.Prev = 2, 7
	switch kind {
	case api.RUpdate:
		r.Change = api.Change{Kind: api.Insert, Page: 3, Slot: 1, New: "ab"}
	case api.RClr:
		r.Change = api.Change{Kind: api.Update, Page: 3, Slot: 1, Old: "ab", New: "c"}
		r.Next = 4
	case api.RSave:
		r.Save = 3
	}
	return r
}

// with is a record of which one thing is made another one; its lists are its
// own, so that no two records of a test share them.
func with(r api.Record, make func(*api.Record)) api.Record {
	r.Txns = append([]api.TxnRow(nil), r.Txns...)
	r.Dirty = append([]api.DirtyRow(nil), r.Dirty...)
	make(&r)
	return r
}

func usesTxn(kind int) bool {
	return kind != api.RBegin && kind != api.RCheck
}

func usesChange(kind int) bool {
	return kind == api.RUpdate || kind == api.RClr
}

func manyTxns(n int) []api.TxnRow {
	rows := make([]api.TxnRow, n)
	for i := range rows {
		rows[i] = api.TxnRow{Txn: i + 1, State: i%3 + 1, First: 1, Last: uint64(i + 1), Next: uint64(i)}
	}
	return rows
}

func manyDirty(n int) []api.DirtyRow {
	rows := make([]api.DirtyRow, n)
	for i := range rows {
		rows[i] = api.DirtyRow{Page: i, Rec: uint64(i + 1)}
	}
	return rows
}

// check is a checkpoint of the LSN 100, with these lists.
func check(txns []api.TxnRow, dirty []api.DirtyRow) api.Record {
	return api.Record{Kind: api.RCheck, LSN: 100, Begin: 1, Txns: txns, Dirty: dirty}
}

func checkTxns(rows ...api.TxnRow) api.Record    { return check(rows, nil) }
func checkDirty(rows ...api.DirtyRow) api.Record { return check(nil, rows) }

// named is a record of which a test says what it shows.
type named struct {
	what string
	r    api.Record
}

// rightOnes are right records: one of each kind, and those at the edges.
func rightOnes() []named {
	var all []named
	add := func(what string, r api.Record) { all = append(all, named{what, r}) }
	for _, kind := range allKinds {
		add("plain", plain(kind))
		add("MaxLSN", with(plain(kind), func(r *api.Record) { r.LSN = maxLSN }))
		add("MaxLSN - 1", with(plain(kind), func(r *api.Record) { r.LSN = maxLSN - 1 }))
		if kind != api.RCheck {
			add("LSN 1", with(plain(kind), func(r *api.Record) { r.LSN, r.Prev, r.Next = 1, 0, 0 }))
		}
		if !usesTxn(kind) {
			continue
		}
		add("Txn 1", with(plain(kind), func(r *api.Record) { r.Txn = 1 }))
		add("MaxTxn", with(plain(kind), func(r *api.Record) { r.Txn = api.MaxTxn }))
		add("Prev 0", with(plain(kind), func(r *api.Record) { r.Prev = 0 }))
		add("Prev 8", with(plain(kind), func(r *api.Record) { r.Prev = 8 }))
		add("greatest Prev", with(plain(kind), func(r *api.Record) { r.LSN, r.Prev = maxLSN, maxLSN-1 }))
	}
	for _, kind := range []int{api.RUpdate, api.RClr} {
		for _, c := range rightChanges() {
			add("change", with(plain(kind), func(r *api.Record) { r.Change = c }))
		}
	}
	add("Next 0", with(plain(api.RClr), func(r *api.Record) { r.Next = 0 }))
	add("Next 8", with(plain(api.RClr), func(r *api.Record) { r.Next = 8 }))
	add("greatest Next", with(plain(api.RClr), func(r *api.Record) { r.LSN, r.Next = maxLSN, maxLSN-1 }))
	for save := 1; save <= api.MaxSaves; save++ {
		add("Save", with(plain(api.RSave), func(r *api.Record) { r.Save = save }))
	}
	return append(all, rightChecks()...)
}

func rightChanges() []api.Change {
	return []api.Change{
		{Kind: api.Insert},
		{Kind: api.Insert, Page: 31, Slot: 7, New: long(20)},
		{Kind: api.Delete, Page: 1, Slot: 6, Old: long(20)},
		{Kind: api.Delete, Page: 30, Slot: 0},
		{Kind: api.Update, Page: 0, Slot: 7, Old: long(20), New: long(20)},
		{Kind: api.Update, Page: 31, Slot: 0},
		{Kind: api.Update, Page: 2, Slot: 3, Old: "\x00", New: "\xff\xfe"},
		{Kind: api.Update, Page: 2, Slot: 3, Old: "a"},
		{Kind: api.Update, Page: 2, Slot: 3, New: "a"},
	}
}

func rightChecks() []named {
	return []named{
		{"no lists", check(nil, nil)},
		{"empty lists", check([]api.TxnRow{}, []api.DirtyRow{})},
		{"Begin LSN - 1", with(check(nil, nil), func(r *api.Record) { r.Begin = 99 })},
		{"LSN 2", api.Record{Kind: api.RCheck, LSN: 2, Begin: 1}},
		{"all of LSN 2", api.Record{Kind: api.RCheck, LSN: 2, Begin: 1, Txns: []api.TxnRow{{Txn: 1, State: 1, First: 1, Last: 1, Next: 1}}, Dirty: []api.DirtyRow{{Page: 0, Rec: 1}}}},
		{"greatest of all", api.Record{Kind: api.RCheck, LSN: maxLSN, Begin: maxLSN - 1, Txns: []api.TxnRow{{Txn: api.MaxTxn, State: 3, First: maxLSN - 1, Last: maxLSN - 1, Next: maxLSN - 1}}, Dirty: []api.DirtyRow{{Page: 31, Rec: maxLSN - 1}}}},
		{"one row", checkTxns(api.TxnRow{Txn: 5, State: api.Aborting, First: 4, Last: 6, Next: 6})},
		{"First 1", checkTxns(api.TxnRow{Txn: 5, State: 1, First: 1, Last: 6})},
		{"First = Last", checkTxns(api.TxnRow{Txn: 5, State: 1, First: 6, Last: 6})},
		{"Last 99", checkTxns(api.TxnRow{Txn: 5, State: 1, First: 6, Last: 99})},
		{"Next below First", checkTxns(api.TxnRow{Txn: 5, State: 1, First: 6, Last: 8, Next: 2})},
		{"Next = Last", checkTxns(api.TxnRow{Txn: 5, State: 1, First: 6, Last: 8, Next: 8})},
		{"rows that rise by 1", checkTxns(api.TxnRow{Txn: 1, State: 1, First: 6, Last: 8}, api.TxnRow{Txn: 2, State: 1, First: 1, Last: 5})},
		{"MaxTxn last", checkTxns(api.TxnRow{Txn: api.MaxTxn - 1, State: 1, First: 6, Last: 8}, api.TxnRow{Txn: api.MaxTxn, State: 1, First: 6, Last: 8})},
		{"15 rows", checkTxns(manyTxns(15)...)},
		{"16 rows", checkTxns(manyTxns(16)...)},
		{"page 0", checkDirty(api.DirtyRow{Page: 0, Rec: 1})},
		{"page 31", checkDirty(api.DirtyRow{Page: 31, Rec: 99})},
		{"pages of one Rec", checkDirty(api.DirtyRow{Page: 30, Rec: 9}, api.DirtyRow{Page: 31, Rec: 9})},
		{"pages of falling Recs", checkDirty(api.DirtyRow{Page: 0, Rec: 9}, api.DirtyRow{Page: 31, Rec: 8})},
		{"31 pages", checkDirty(manyDirty(31)...)},
		{"32 pages", checkDirty(manyDirty(32)...)},
		{"all full", check(manyTxns(16), manyDirty(32))},
	}
}

// wrongOnes differ from right ones by one thing alone.
func wrongOnes() []named {
	var all []named
	add := func(what string, r api.Record) { all = append(all, named{what, r}) }
	for _, kind := range allKinds {
		add("LSN 0", with(plain(kind), func(r *api.Record) { r.LSN = 0 }))
		add("bare LSN 0", with(plain(kind), func(r *api.Record) { r.LSN, r.Prev, r.Next = 0, 0, 0 }))
		for _, lsn := range []uint64{maxLSN + 1, 1 << 63, math.MaxUint64} {
			add("LSN above MaxLSN", with(plain(kind), func(r *api.Record) { r.LSN = lsn }))
		}
		for _, wrong := range []int{math.MinInt, -1, 0, 9, 10, 255, 256 + kind, 1<<32 + kind, -kind, math.MaxInt} {
			add("no kind", with(plain(kind), func(r *api.Record) { r.Kind = wrong }))
		}
		all = append(all, wrongTxns(kind)...)
		all = append(all, wrongChanges(kind)...)
		all = append(all, wrongUnused(kind)...)
	}
	for _, kind := range []int{math.MinInt, -1, 0, 9, 255, 257, 1<<32 + 7, math.MaxInt} {
		add("no kind, and nothing", api.Record{Kind: kind, LSN: 9})
		add("no kind, and a transaction", api.Record{Kind: kind, LSN: 9, Txn: 1})
	}
	for _, next := range []uint64{9, 10, math.MaxUint64} {
		add("Next", with(plain(api.RClr), func(r *api.Record) { r.Next = next }))
	}
	for _, save := range []int{math.MinInt, -1, 0, 9, 10, 256, 257, 1<<32 + 1, math.MaxInt} {
		add("Save", with(plain(api.RSave), func(r *api.Record) { r.Save = save }))
	}
	return append(append(all, wrongRows()...), wrongPages()...)
}

func wrongTxns(kind int) []named {
	if !usesTxn(kind) {
		return nil
	}
	var all []named
	for _, txn := range []int{math.MinInt, -1, 0, api.MaxTxn + 1, api.MaxTxn + 2, 1<<32 + 2, math.MaxInt} {
		all = append(all, named{"Txn", with(plain(kind), func(r *api.Record) { r.Txn = txn })})
	}
	for _, prev := range []uint64{9, 10, maxLSN, math.MaxUint64} {
		all = append(all, named{"Prev", with(plain(kind), func(r *api.Record) { r.Prev = prev })})
	}
	return all
}

func wrongChanges(kind int) []named {
	if !usesChange(kind) {
		return nil
	}
	var all []named
	for _, c := range []api.Change{
		{},
		{Kind: -1, New: "a"},
		{Kind: 4, New: "a"},
		{Kind: 257, New: "a"},
		{Kind: api.Insert, Page: -1},
		{Kind: api.Insert, Page: 32},
		{Kind: api.Insert, Page: 65536},
		{Kind: api.Insert, Slot: -1},
		{Kind: api.Insert, Slot: 8},
		{Kind: api.Insert, Slot: 256},
		{Kind: api.Insert, Old: "a", New: "b"},
		{Kind: api.Delete, Old: "a", New: "b"},
		{Kind: api.Insert, New: long(21)},
		{Kind: api.Delete, Old: long(21)},
		{Kind: api.Update, Old: "a", New: long(21)},
		{Kind: api.Update, Old: long(21), New: "a"},
		{Kind: api.Update, Old: long(256), New: "a"},
	} {
		all = append(all, named{"change", with(plain(kind), func(r *api.Record) { r.Change = c })})
	}
	return all
}

// wrongUnused have something in just one field that the kind doesn't use.
func wrongUnused(kind int) []named {
	var all []named
	add := func(what string, make func(*api.Record)) {
		all = append(all, named{what + " isn't used", with(plain(kind), make)})
	}
	if !usesTxn(kind) {
		add("Txn", func(r *api.Record) { r.Txn = 1 })
		add("Txn", func(r *api.Record) { r.Txn = -1 })
		add("Prev", func(r *api.Record) { r.Prev = 1 })
	}
	if !usesChange(kind) {
		add("Change", func(r *api.Record) { r.Change = api.Change{Kind: api.Insert, New: "a"} })
		add("Change.Kind", func(r *api.Record) { r.Change.Kind = api.Update })
		add("Change.Page", func(r *api.Record) { r.Change.Page = 1 })
		add("Change.Slot", func(r *api.Record) { r.Change.Slot = 1 })
		add("Change.Old", func(r *api.Record) { r.Change.Old = "a" })
		add("Change.New", func(r *api.Record) { r.Change.New = "a" })
	}
	if kind != api.RClr {
		add("Next", func(r *api.Record) { r.Next = 1 })
	}
	if kind != api.RSave {
		add("Save", func(r *api.Record) { r.Save = 1 })
		add("Save", func(r *api.Record) { r.Save = -1 })
	}
	if kind != api.RCheck {
		add("Begin", func(r *api.Record) { r.Begin = 1 })
		add("Txns", func(r *api.Record) { r.Txns = []api.TxnRow{{Txn: 1, State: 1, First: 1, Last: 1}} })
		add("Txns", func(r *api.Record) { r.Txns = make([]api.TxnRow, 1) })
		add("Dirty", func(r *api.Record) { r.Dirty = []api.DirtyRow{{Page: 0, Rec: 1}} })
		add("Dirty", func(r *api.Record) { r.Dirty = make([]api.DirtyRow, 1) })
	}
	return all
}

func wrongRows() []named {
	var all []named
	add := func(what string, r api.Record) { all = append(all, named{what, r}) }
	for _, begin := range []uint64{0, 100, 101, maxLSN, math.MaxUint64} {
		add("Begin", with(check(nil, nil), func(r *api.Record) { r.Begin = begin }))
	}
	add("LSN 1 has no Begin", api.Record{Kind: api.RCheck, LSN: 1, Begin: 1})
	add("LSN 1 has no Begin", api.Record{Kind: api.RCheck, LSN: 1})
	add("17 rows", checkTxns(manyTxns(17)...))
	add("256 rows", checkTxns(manyTxns(256)...))
	for _, txn := range []int{math.MinInt, -1, 0, api.MaxTxn + 1, 1<<32 + 1, math.MaxInt} {
		add("Txn of a row", checkTxns(api.TxnRow{Txn: txn, State: 1, First: 2, Last: 5}))
	}
	for _, state := range []int{math.MinInt, -1, 0, 4, 5, 256, 257, 1<<32 + 1, math.MaxInt} {
		add("State of a row", checkTxns(api.TxnRow{Txn: 3, State: state, First: 2, Last: 5}))
	}
	for _, row := range []api.TxnRow{
		{Txn: 3, State: 1},
		{Txn: 3, State: 1, First: 0, Last: 5},
		{Txn: 3, State: 1, First: 6, Last: 5},
		{Txn: 3, State: 1, First: 2, Last: 100},
		{Txn: 3, State: 1, First: 100, Last: 100},
		{Txn: 3, State: 1, First: 2, Last: 101},
		{Txn: 3, State: 1, First: 2, Last: math.MaxUint64},
		{Txn: 3, State: 1, First: 2, Last: 5, Next: 6},
		{Txn: 3, State: 1, First: 2, Last: 5, Next: 100},
		{Txn: 3, State: 1, First: 2, Last: 5, Next: math.MaxUint64},
	} {
		add("a row", checkTxns(row))
		good := api.TxnRow{Txn: 2, State: 1, First: 2, Last: 5}
		after := api.TxnRow{Txn: 4, State: 1, First: 2, Last: 5}
		add("a row behind", checkTxns(good, row))
		add("a row ahead", checkTxns(row, after))
		add("a row between", checkTxns(good, row, after))
	}
	for _, txns := range [][]int{{3, 3}, {3, 2}, {1, 3, 3}, {1, 3, 2}, {3, 1, 4}, {2, 1}, {1, 2, 3, 1}} {
		rows := make([]api.TxnRow, len(txns))
		for i, txn := range txns {
			rows[i] = api.TxnRow{Txn: txn, State: 1, First: uint64(i + 1), Last: uint64(i + 9)}
		}
		add("rows that don't rise", checkTxns(rows...))
	}
	return all
}

func wrongPages() []named {
	var all []named
	add := func(what string, r api.Record) { all = append(all, named{what, r}) }
	for _, page := range []int{math.MinInt, -2, -1, 32, 33, 256, 65536, 1<<32 + 1, math.MaxInt} {
		add("Page", checkDirty(api.DirtyRow{Page: page, Rec: 5}))
		add("Page behind", checkDirty(api.DirtyRow{Page: 3, Rec: 5}, api.DirtyRow{Page: page, Rec: 5}))
	}
	for _, rec := range []uint64{0, 100, 101, maxLSN, math.MaxUint64} {
		add("Rec", checkDirty(api.DirtyRow{Page: 5, Rec: rec}))
		add("Rec behind", checkDirty(api.DirtyRow{Page: 3, Rec: 5}, api.DirtyRow{Page: 5, Rec: rec}))
		add("Rec ahead", checkDirty(api.DirtyRow{Page: 3, Rec: rec}, api.DirtyRow{Page: 5, Rec: 5}))
	}
	for _, pages := range [][]int{{0, 0}, {3, 3}, {1, 0}, {31, 30}, {0, 2, 2}, {0, 2, 1}, {2, 1, 3}, {0, 1, 2, 0}} {
		rows := make([]api.DirtyRow, len(pages))
		for i, page := range pages {
			rows[i] = api.DirtyRow{Page: page, Rec: uint64(i + 1)}
		}
		add("pages that don't rise", checkDirty(rows...))
	}
	add("33 pages", checkDirty(manyDirty(33)...))
	add("256 pages", checkDirty(manyDirty(256)...))
	twice := manyDirty(33)
	twice[32].Page = 31
	add("33 pages, one of them twice", checkDirty(twice...))
	return all
}

// laid is a record's bytes as the chapter's Words tell them, whether it is
// right or not, so long as its numbers fit: the reference for Encode and a
// maker of bytes for Decode.
func laid(r api.Record) []byte {
	big := binary.BigEndian
	b := []byte{byte(r.Kind)}
	b = big.AppendUint64(b, r.LSN)
	b = big.AppendUint32(b, uint32(r.Txn))
	b = big.AppendUint64(b, r.Prev)
	if usesChange(r.Kind) {
		b = append(b, byte(r.Change.Kind), byte(r.Change.Page>>8), byte(r.Change.Page), byte(r.Change.Slot))
		b = append(append(b, byte(len(r.Change.Old))), r.Change.Old...)
		b = append(append(b, byte(len(r.Change.New))), r.Change.New...)
	}
	if r.Kind == api.RClr {
		b = big.AppendUint64(b, r.Next)
	}
	if r.Kind == api.RSave {
		b = append(b, byte(r.Save))
	}
	if r.Kind != api.RCheck {
		return b
	}
	b = append(big.AppendUint64(b, r.Begin), byte(len(r.Txns)))
	for _, row := range r.Txns {
		b = append(big.AppendUint32(b, uint32(row.Txn)), byte(row.State))
		b = big.AppendUint64(big.AppendUint64(big.AppendUint64(b, row.First), row.Last), row.Next)
	}
	b = append(b, byte(len(r.Dirty)))
	for _, row := range r.Dirty {
		b = big.AppendUint64(big.AppendUint16(b, uint16(row.Page)), row.Rec)
	}
	return b
}

// alike tells, another way than Same, whether two records are alike.
func alike(a, b api.Record) bool {
	for _, r := range []*api.Record{&a, &b} {
		if len(r.Txns) == 0 {
			r.Txns = nil
		}
		if len(r.Dirty) == 0 {
			r.Dirty = nil
		}
	}
	return reflect.DeepEqual(a, b)
}

func refused(r api.Record, errno, want api.Errno) bool {
	return errno == want && alike(r, api.Record{})
}

// P6.1: what is right, and what isn't.

func TestRight(t *testing.T) {
	for _, n := range rightOnes() {
		if !Right(n.r) {
			t.Errorf("not right, though it is (%s): %#v", n.what, n.r)
		}
	}
	for _, n := range wrongOnes() {
		if Right(n.r) {
			t.Errorf("right, though it isn't (%s): %#v", n.what, n.r)
		}
	}
	if Right(api.Record{}) {
		t.Error("the zero record is right")
	}
}

// A record whose kind is made another one has what that kind doesn't use, or
// lacks what it uses: but for the kinds that use the same, and for an RUpdate,
// which is as an RClr with the Next 0.
func TestRightOfAnotherKind(t *testing.T) {
	for _, kind := range allKinds {
		for _, other := range allKinds {
			r := with(plain(kind), func(r *api.Record) { r.Kind = other })
			want := kind == other || bare(kind) && bare(other) || kind == api.RUpdate && other == api.RClr
			if Right(r) != want {
				t.Errorf("what the kind %d uses, with the kind %d: right is %v", kind, other, !want)
			}
		}
	}
}

// bare are the kinds that use a transaction and nothing more.
func bare(kind int) bool {
	return kind == api.RCommit || kind == api.RAbort || kind == api.REnd
}

// A row's numbers, all of them round the bounds, by the chapter's words one by
// one.
func TestRightOfEveryRow(t *testing.T) {
	for first := range uint64(5) {
		for last := range uint64(6) {
			for next := range uint64(6) {
				for state := range 5 {
					r := api.Record{Kind: api.RCheck, LSN: 4, Begin: 1, Txns: []api.TxnRow{{Txn: 1, State: state, First: first, Last: last, Next: next}}}
					want := state != 0 && state != 4 && first != 0 && !(first > last) && last != 4 && last != 5 && !(next > last)
					if Right(r) != want {
						t.Errorf("State %d, First %d, Last %d, Next %d in the LSN 4: right is %v", state, first, last, next, !want)
					}
				}
			}
		}
	}
}

// P6.1: Same.

func TestSame(t *testing.T) {
	all := append(rightOnes(), wrongOnes()...)
	for i, a := range all {
		if !Same(a.r, with(a.r, func(*api.Record) {})) {
			t.Errorf("not the same as its copy: %#v", a.r)
		}
		for _, b := range all[i+1:] {
			want := alike(a.r, b.r)
			if Same(a.r, b.r) != want || Same(b.r, a.r) != want {
				t.Fatalf("Same isn't %v (%s, %s): %#v, %#v", want, a.what, b.what, a.r, b.r)
			}
		}
	}
}

// other make one field another one.
func other() map[string]func(*api.Record) {
	return map[string]func(*api.Record){
		"Kind":            func(r *api.Record) { r.Kind++ },
		"LSN":             func(r *api.Record) { r.LSN++ },
		"LSN, high":       func(r *api.Record) { r.LSN += 1 << 63 },
		"Txn":             func(r *api.Record) { r.Txn++ },
		"Prev":            func(r *api.Record) { r.Prev++ },
		"Change.Kind":     func(r *api.Record) { r.Change.Kind++ },
		"Change.Page":     func(r *api.Record) { r.Change.Page++ },
		"Change.Slot":     func(r *api.Record) { r.Change.Slot++ },
		"Change.Old":      func(r *api.Record) { r.Change.Old += "\x00" },
		"Change.New":      func(r *api.Record) { r.Change.New += "\x00" },
		"Next":            func(r *api.Record) { r.Next++ },
		"Save":            func(r *api.Record) { r.Save++ },
		"Begin":           func(r *api.Record) { r.Begin++ },
		"Txn of a row":    func(r *api.Record) { r.Txns[1].Txn++ },
		"State of a row":  func(r *api.Record) { r.Txns[1].State++ },
		"First of a row":  func(r *api.Record) { r.Txns[1].First++ },
		"Last of a row":   func(r *api.Record) { r.Txns[1].Last++ },
		"Next of a row":   func(r *api.Record) { r.Txns[1].Next++ },
		"first row":       func(r *api.Record) { r.Txns[0].Next++ },
		"a row more":      func(r *api.Record) { r.Txns = append(r.Txns, api.TxnRow{}) },
		"a row less":      func(r *api.Record) { r.Txns = r.Txns[:1] },
		"no rows":         func(r *api.Record) { r.Txns = nil },
		"rows exchanged":  func(r *api.Record) { r.Txns[0], r.Txns[1] = r.Txns[1], r.Txns[0] },
		"Page":            func(r *api.Record) { r.Dirty[1].Page++ },
		"Rec":             func(r *api.Record) { r.Dirty[1].Rec++ },
		"first page":      func(r *api.Record) { r.Dirty[0].Rec++ },
		"a page more":     func(r *api.Record) { r.Dirty = append(r.Dirty, api.DirtyRow{}) },
		"a page less":     func(r *api.Record) { r.Dirty = r.Dirty[:1] },
		"no pages":        func(r *api.Record) { r.Dirty = nil },
		"pages exchanged": func(r *api.Record) { r.Dirty[0], r.Dirty[1] = r.Dirty[1], r.Dirty[0] },
	}
}

// What the kind uses plays no part for Same: records with something in every
// field differ by each of them.
func TestSameOfOneFieldOther(t *testing.T) {
	full := plain(api.RCheck)
	full.Txn, full.Prev, full.Next, full.Save = 3, 4, 5, 6
	full.Change = api.Change{Kind: api.Update, Page: 1, Slot: 2, Old: "a", New: "b"}
	if !Same(full, with(full, func(*api.Record) {})) {
		t.Error("not the same as its copy")
	}
	for what, make := range other() {
		r := with(full, make)
		if Same(full, r) || Same(r, full) {
			t.Errorf("the same, with another %s", what)
		}
	}
	values := with(full, func(r *api.Record) { r.Change.Old, r.Change.New = r.Change.New, r.Change.Old })
	if Same(full, values) {
		t.Error("the same, with the values exchanged")
	}
}

// R4: lists without elements are alike, nil or empty, whatever memory they have.
func TestSameOfEmptyLists(t *testing.T) {
	txns := [][]api.TxnRow{nil, {}, make([]api.TxnRow, 0, 4), manyTxns(3)[:0]}
	dirty := [][]api.DirtyRow{nil, {}, make([]api.DirtyRow, 0, 4), manyDirty(3)[:0]}
	for _, at := range txns {
		for _, ad := range dirty {
			for _, bt := range txns {
				for _, bd := range dirty {
					if !Same(check(at, ad), check(bt, bd)) {
						t.Fatalf("nil and empty aren't alike: %v %v %v %v", at == nil, ad == nil, bt == nil, bd == nil)
					}
				}
			}
			for _, kind := range allKinds {
				r := with(plain(kind), func(*api.Record) {})
				if kind == api.RCheck {
					r.Txns, r.Dirty = nil, nil
				}
				want, _ := Encode(r)
				r.Txns, r.Dirty = at, ad
				if b, errno := Encode(r); !Right(r) || errno != api.OK || !bytes.Equal(b, want) {
					t.Errorf("kind %d with lists nil %v, %v: %d, %x", kind, at == nil, ad == nil, errno, b)
				}
			}
		}
	}
}

// P6.1: Encode and Size.

func TestEncode(t *testing.T) {
	for _, n := range rightOnes() {
		want := laid(n.r)
		b, errno := Encode(n.r)
		if errno != api.OK || !bytes.Equal(b, want) {
			t.Errorf("Encode (%s) of %#v: %d, %x, not %x", n.what, n.r, errno, b, want)
		}
		if Size(n.r) != len(want) {
			t.Errorf("Size (%s) of %#v: %d, not %d", n.what, n.r, Size(n.r), len(want))
		}
	}
}

func TestEncodeOfWrong(t *testing.T) {
	for _, n := range append(wrongOnes(), named{"zero", api.Record{}}) {
		if b, errno := Encode(n.r); errno != api.ErrArg || len(b) != 0 {
			t.Errorf("Encode (%s) of %#v: %d, %x", n.what, n.r, errno, b)
		}
		if Size(n.r) != 0 {
			t.Errorf("Size (%s) of %#v: %d", n.what, n.r, Size(n.r))
		}
	}
}

// The bytes of one record of each kind, written out.
func TestBytesWrittenOut(t *testing.T) {
	for _, c := range []struct {
		r    api.Record
		want string
	}{
		{api.Record{Kind: api.RUpdate, LSN: 0x0102030405060708, Txn: 0x0a0b0c, Prev: 0x0102030405060707, Change: api.Change{Kind: api.Delete, Page: 31, Slot: 7, Old: "xyz"}},
			"\x01\x01\x02\x03\x04\x05\x06\x07\x08\x00\x0a\x0b\x0c\x01\x02\x03\x04\x05\x06\x07\x07\x03\x00\x1f\x07\x03xyz\x00"},
		{api.Record{Kind: api.RClr, LSN: 9, Txn: 2, Prev: 7, Change: api.Change{Kind: api.Update, Page: 3, Slot: 1, Old: "ab", New: "c"}, Next: 4},
			"\x02\x00\x00\x00\x00\x00\x00\x00\x09\x00\x00\x00\x02\x00\x00\x00\x00\x00\x00\x00\x07\x02\x00\x03\x01\x02ab\x01c\x00\x00\x00\x00\x00\x00\x00\x04"},
		{api.Record{Kind: api.RCommit, LSN: maxLSN, Txn: api.MaxTxn, Prev: maxLSN - 1},
			"\x03\x40\x00\x00\x00\x00\x00\x00\x00\x00\x0f\xff\xff\x3f\xff\xff\xff\xff\xff\xff\xff"},
		{api.Record{Kind: api.RAbort, LSN: 1, Txn: 1},
			"\x04\x00\x00\x00\x00\x00\x00\x00\x01\x00\x00\x00\x01\x00\x00\x00\x00\x00\x00\x00\x00"},
		{api.Record{Kind: api.REnd, LSN: 258, Txn: 258, Prev: 257},
			"\x05\x00\x00\x00\x00\x00\x00\x01\x02\x00\x00\x01\x02\x00\x00\x00\x00\x00\x00\x01\x01"},
		{api.Record{Kind: api.RSave, LSN: 5, Txn: 1, Prev: 4, Save: 8},
			"\x06\x00\x00\x00\x00\x00\x00\x00\x05\x00\x00\x00\x01\x00\x00\x00\x00\x00\x00\x00\x04\x08"},
		{api.Record{Kind: api.RBegin, LSN: 5},
			"\x07\x00\x00\x00\x00\x00\x00\x00\x05\x00\x00\x00\x00\x00\x00\x00\x00\x00\x00\x00\x00"},
		{api.Record{Kind: api.RCheck, LSN: 9, Begin: 8, Txns: []api.TxnRow{{Txn: 3, State: 2, First: 4, Last: 6, Next: 5}}, Dirty: []api.DirtyRow{{Page: 31, Rec: 7}}},
			"\x08\x00\x00\x00\x00\x00\x00\x00\x09\x00\x00\x00\x00\x00\x00\x00\x00\x00\x00\x00\x00\x00\x00\x00\x00\x00\x00\x00\x08\x01\x00\x00\x00\x03\x02\x00\x00\x00\x00\x00\x00\x00\x04\x00\x00\x00\x00\x00\x00\x00\x06\x00\x00\x00\x00\x00\x00\x00\x05\x01\x00\x1f\x00\x00\x00\x00\x00\x00\x00\x07"},
	} {
		b, errno := Encode(c.r)
		if errno != api.OK || string(b) != c.want || Size(c.r) != len(c.want) {
			t.Errorf("Encode of the kind %d: %d, %x, not %x", c.r.Kind, errno, b, c.want)
		}
		if r, errno := Decode([]byte(c.want)); errno != api.OK || !alike(r, c.r) {
			t.Errorf("Decode of the kind %d: %d, %#v", c.r.Kind, errno, r)
		}
	}
}

func TestSizes(t *testing.T) {
	clr := api.Record{Kind: api.RClr, LSN: 9, Txn: 2, Prev: 7, Change: api.Change{Kind: api.Update, Old: long(20), New: long(20)}, Next: 4}
	for _, c := range []struct {
		r    api.Record
		want int
	}{
		{plain(api.RCommit), 21},
		{plain(api.RAbort), 21},
		{plain(api.REnd), 21},
		{plain(api.RBegin), 21},
		{plain(api.RSave), 22},
		{clr, 75},
		{with(clr, func(r *api.Record) { r.Kind, r.Next = api.RUpdate, 0 }), 67},
		{with(clr, func(r *api.Record) { r.Change.Old, r.Change.New = "", "" }), 35},
		{check(nil, nil), 31},
		{check(manyTxns(1), nil), 60},
		{check(nil, manyDirty(1)), 41},
		{check(manyTxns(16), manyDirty(32)), 31 + 16*29 + 32*10},
	} {
		if n := Size(c.r); n != c.want {
			t.Errorf("Size of %#v: %d, not %d", c.r, n, c.want)
		}
	}
}

// P6.2 and P6.3: Decode.

func TestDecode(t *testing.T) {
	for _, n := range rightOnes() {
		b := laid(n.r)
		if r, errno := Decode(b); errno != api.OK || !alike(r, n.r) {
			t.Errorf("Decode (%s) of %x: %d, %#v, not %#v", n.what, b, errno, r, n.r)
		}
		for end := range b {
			if r, errno := Decode(b[:end:end]); !refused(r, errno, api.ErrShort) {
				t.Errorf("Decode (%s) of the first %d of %x: %d, %#v", n.what, end, b, errno, r)
			}
		}
		for _, more := range [][]byte{{0}, {1}, {255}, {0, 0}, b} {
			if r, errno := Decode(append(bytes.Clone(b), more...)); !refused(r, errno, api.ErrForm) {
				t.Errorf("Decode (%s) of %x and %x: %d, %#v", n.what, b, more, errno, r)
			}
		}
	}
}

func TestDecodeExamples(t *testing.T) {
	for _, b := range [][]byte{nil, {}} {
		if r, errno := Decode(b); !refused(r, errno, api.ErrShort) {
			t.Errorf("Decode of nothing: %d, %#v", errno, r)
		}
	}
	if r, errno := Decode([]byte{9}); !refused(r, errno, api.ErrForm) {
		t.Errorf("Decode of the byte 9: %d, %#v", errno, r)
	}
}

// A kind that is none is told where it stands, however many bytes follow.
func TestDecodeOfNoKind(t *testing.T) {
	for kind := range 256 {
		for _, more := range []int{0, 1, 7, 19, 20, 21, 30, 1000} {
			b := make([]byte, 1+more)
			b[0] = byte(kind)
			want := api.ErrForm
			if 1 <= kind && kind <= 8 {
				if more >= 20 {
					continue
				}
				want = api.ErrShort
			}
			if r, errno := Decode(b); !refused(r, errno, want) {
				t.Errorf("Decode of the kind %d and %d bytes: %d, %#v", kind, more, errno, r)
			}
		}
	}
}

// A count that is too great is told where it stands, though bytes lack behind
// it; one that is not is ErrShort there.
func TestDecodeOfCounts(t *testing.T) {
	head := laid(check(nil, nil))[:29]
	for n := range 256 {
		want := api.ErrShort
		if n > api.MaxRows {
			want = api.ErrForm
		}
		rows := append(bytes.Clone(head), byte(n))
		for _, more := range []int{0, 1, 28} {
			if n == 0 && more > 0 {
				continue
			}
			if r, errno := Decode(append(bytes.Clone(rows), make([]byte, more)...)); !refused(r, errno, want) {
				t.Errorf("Decode of %d rows and %d bytes: %d, %#v", n, more, errno, r)
			}
		}
		if n == 0 {
			continue
		}
		want = api.ErrShort
		if n > api.MaxPages {
			want = api.ErrForm
		}
		pages := append(bytes.Clone(head), 0, byte(n))
		for _, more := range []int{0, 1, 9} {
			if r, errno := Decode(append(bytes.Clone(pages), make([]byte, more)...)); !refused(r, errno, want) {
				t.Errorf("Decode of %d pages and %d bytes: %d, %#v", n, more, errno, r)
			}
		}
	}
}

// Lists that are too long are ErrForm with all their bytes too.
func TestDecodeOfLongLists(t *testing.T) {
	for _, n := range []int{17, 18, 255} {
		if r, errno := Decode(laid(check(manyTxns(n), nil))); !refused(r, errno, api.ErrForm) {
			t.Errorf("Decode of %d rows: %d, %#v", n, errno, r)
		}
	}
	for _, n := range []int{33, 34, 255} {
		if r, errno := Decode(laid(check(nil, manyDirty(n)))); !refused(r, errno, api.ErrForm) {
			t.Errorf("Decode of %d pages: %d, %#v", n, errno, r)
		}
		if r, errno := Decode(laid(check(manyTxns(16), manyDirty(n)))); !refused(r, errno, api.ErrForm) {
			t.Errorf("Decode of 16 rows, %d pages: %d, %#v", n, errno, r)
		}
	}
}

// fits tells whether the bytes that are laid of a record tell all of it.
func fits(r api.Record) bool {
	back, ok := told(laid(r))
	return ok && alike(back, r)
}

// A record that isn't right is ErrForm once all of it is there; ErrShort,
// before that, whatever is wrong with it.
func TestDecodeOfWrong(t *testing.T) {
	count := 0
	for _, n := range wrongOnes() {
		if !fits(n.r) {
			continue
		}
		count++
		b := laid(n.r)
		if r, errno := Decode(b); !refused(r, errno, api.ErrForm) {
			t.Errorf("Decode (%s) of %x, %#v: %d, %#v", n.what, b, n.r, errno, r)
		}
		if r, errno := Decode(append(bytes.Clone(b), 0)); !refused(r, errno, api.ErrForm) {
			t.Errorf("Decode (%s) of %x and a byte: %d, %#v", n.what, b, errno, r)
		}
		for end := range b {
			if r, errno := Decode(b[:end]); !refused(r, errno, api.ErrShort) {
				t.Errorf("Decode (%s) of the first %d of %x: %d, %#v", n.what, end, b, errno, r)
			}
		}
	}
	if count < 100 {
		t.Errorf("only %d records that aren't right can be told by bytes", count)
	}
}

// A change's kind and its values' lengths play no part while bytes lack: they
// are what isn't right of a record that was read.
func TestDecodeOfWrongChangeCutOff(t *testing.T) {
	for _, c := range []api.Change{{}, {Kind: 4}, {Kind: 255}, {Kind: api.Insert, Page: 65535}, {Kind: api.Insert, Slot: 255}, {Kind: api.Update, Old: long(21), New: long(255)}} {
		for _, kind := range []int{api.RUpdate, api.RClr} {
			b := laid(with(plain(kind), func(r *api.Record) { r.Change = c }))
			for end := range b {
				if r, errno := Decode(b[:end]); !refused(r, errno, api.ErrShort) {
					t.Errorf("Decode of the first %d of %x: %d, %#v", end, b, errno, r)
				}
			}
			if r, errno := Decode(b); !refused(r, errno, api.ErrForm) {
				t.Errorf("Decode of %x: %d, %#v", b, errno, r)
			}
		}
	}
}

// told reads bytes that tell a record of a kind whole, and no more, right or
// not: each field at a place that is counted, not gone through.
func told(b []byte) (api.Record, bool) {
	big := binary.BigEndian
	if len(b) < 21 {
		return api.Record{}, false
	}
	r := api.Record{Kind: int(b[0]), LSN: big.Uint64(b[1:]), Txn: int(big.Uint32(b[9:])), Prev: big.Uint64(b[13:])}
	rest := b[21:]
	switch r.Kind {
	case api.RCommit, api.RAbort, api.REnd, api.RBegin:
		return r, len(rest) == 0
	case api.RSave:
		if len(rest) != 1 {
			return r, false
		}
		r.Save = int(rest[0])
		return r, true
	case api.RUpdate, api.RClr:
		return toldChange(r, rest)
	case api.RCheck:
		return toldCheck(r, rest)
	}
	return r, false
}

func toldChange(r api.Record, b []byte) (api.Record, bool) {
	tail := 0
	if r.Kind == api.RClr {
		tail = 8
	}
	if len(b) < 6+tail {
		return r, false
	}
	old := int(b[4])
	if len(b) < 6+old+tail {
		return r, false
	}
	size := 6 + old + int(b[5+old])
	if len(b) != size+tail {
		return r, false
	}
	r.Change = api.Change{Kind: int(b[0]), Page: int(b[1])<<8 + int(b[2]), Slot: int(b[3]), Old: string(b[5 : 5+old]), New: string(b[6+old : size])}
	if tail > 0 {
		r.Next = binary.BigEndian.Uint64(b[size:])
	}
	return r, true
}

func toldCheck(r api.Record, b []byte) (api.Record, bool) {
	big := binary.BigEndian
	if len(b) < 10 {
		return r, false
	}
	rows := int(b[8])
	if rows > api.MaxRows || len(b) < 10+29*rows {
		return r, false
	}
	pages := int(b[9+29*rows])
	if pages > api.MaxPages || len(b) != 10+29*rows+10*pages {
		return r, false
	}
	r.Begin = big.Uint64(b)
	for i := range rows {
		row := b[9+29*i:]
		r.Txns = append(r.Txns, api.TxnRow{Txn: int(big.Uint32(row)), State: int(row[4]), First: big.Uint64(row[5:]), Last: big.Uint64(row[13:]), Next: big.Uint64(row[21:])})
	}
	for i := range pages {
		row := b[10+29*rows+10*i:]
		r.Dirty = append(r.Dirty, api.DirtyRow{Page: int(big.Uint16(row)), Rec: big.Uint64(row[2:])})
	}
	return r, true
}

// lacking tells whether bytes end too early, ahead of any kind or count that is
// none.
func lacking(b []byte) bool {
	if len(b) == 0 {
		return true
	}
	if b[0] < 1 || b[0] > 8 {
		return false
	}
	need := 21
	switch b[0] {
	case api.RSave:
		need = 22
	case api.RUpdate, api.RClr:
		if len(b) < 26 {
			return true
		}
		old := 26 + int(b[25])
		if len(b) <= old {
			return true
		}
		need = old + 1 + int(b[old])
		if b[0] == api.RClr {
			need += 8
		}
	case api.RCheck:
		if len(b) < 30 {
			return true
		}
		if b[29] > api.MaxRows {
			return false
		}
		at := 30 + 29*int(b[29])
		if len(b) <= at {
			return true
		}
		if b[at] > api.MaxPages {
			return false
		}
		need = at + 1 + 10*int(b[at])
	}
	return len(b) < need
}

// decodesAsTold holds one Decode against the words.
func decodesAsTold(t *testing.T, b []byte) api.Errno {
	t.Helper()
	r, errno := Decode(b)
	want, whole := told(b)
	switch {
	case lacking(b):
		if !refused(r, errno, api.ErrShort) {
			t.Fatalf("Decode of %x: %d, %#v, not ErrShort", b, errno, r)
		}
	case !whole || !rightByWords(want):
		if !refused(r, errno, api.ErrForm) {
			t.Fatalf("Decode of %x: %d, %#v, not ErrForm", b, errno, r)
		}
	default:
		if errno != api.OK || !alike(r, want) {
			t.Fatalf("Decode of %x: %d, %#v, not %#v", b, errno, r, want)
		}
		back, errno := Encode(r)
		if errno != api.OK || !bytes.Equal(back, b) || Size(r) != len(b) {
			t.Fatalf("Encode of what %x tells: %d, %x", b, errno, back)
		}
	}
	if got := Right(want); whole && got != rightByWords(want) {
		t.Fatalf("Right of %#v: %v", want, got)
	}
	return errno
}

// rightByWords goes through what may be wrong, field by field, rather than kind
// by kind.
func rightByWords(r api.Record) bool {
	k := r.Kind
	wrong := k < 1 || k > 8 || r.LSN == 0 || r.LSN > maxLSN
	if k == api.RBegin || k == api.RCheck {
		wrong = wrong || r.Txn != 0 || r.Prev != 0
	} else {
		wrong = wrong || r.Txn < 1 || r.Txn > api.MaxTxn || r.Prev >= r.LSN
	}
	if k == api.RUpdate || k == api.RClr {
		wrong = wrong || !change.Right(r.Change)
	} else {
		wrong = wrong || r.Change != api.Change{}
	}
	if k == api.RClr {
		wrong = wrong || r.Next >= r.LSN
	} else {
		wrong = wrong || r.Next != 0
	}
	if k == api.RSave {
		wrong = wrong || r.Save < 1 || r.Save > api.MaxSaves
	} else {
		wrong = wrong || r.Save != 0
	}
	if k == api.RCheck {
		wrong = wrong || r.Begin == 0 || r.Begin >= r.LSN
	} else {
		wrong = wrong || r.Begin != 0 || len(r.Txns) > 0 || len(r.Dirty) > 0
	}
	wrong = wrong || len(r.Txns) > api.MaxRows || len(r.Dirty) > api.MaxPages
	for i, row := range r.Txns {
		wrong = wrong || row.Txn < 1 || row.Txn > api.MaxTxn || row.State < 1 || row.State > 3 ||
			row.First == 0 || row.First > row.Last || row.Last >= r.LSN || row.Next > row.Last ||
			i > 0 && r.Txns[i-1].Txn >= row.Txn
	}
	for i, row := range r.Dirty {
		wrong = wrong || row.Page < 0 || row.Page > 31 || row.Rec == 0 || row.Rec >= r.LSN ||
			i > 0 && r.Dirty[i-1].Page >= row.Page
	}
	return !wrong
}

// The reference says of the listed records what the lists say.
func TestReference(t *testing.T) {
	for _, n := range rightOnes() {
		if !rightByWords(n.r) || lacking(laid(n.r)) {
			t.Errorf("the reference refuses (%s) %#v", n.what, n.r)
		}
	}
	for _, n := range wrongOnes() {
		if rightByWords(n.r) {
			t.Errorf("the reference takes (%s) %#v", n.what, n.r)
		}
	}
}

// Each byte of each record, made another one.
func TestDecodeOfOneByteOther(t *testing.T) {
	seen := map[api.Errno]int{}
	for _, n := range rightOnes() {
		b := laid(n.r)
		if len(b) > 120 {
			continue
		}
		for i := range b {
			for _, x := range []byte{0, 1, 2, 3, 7, 8, 9, 16, 17, 21, 31, 32, 33, 63, 64, 128, 255, b[i] + 1, b[i] - 1} {
				o := bytes.Clone(b)
				o[i] = x
				seen[decodesAsTold(t, o)]++
			}
		}
	}
	for _, errno := range []api.Errno{api.OK, api.ErrForm, api.ErrShort} {
		if seen[errno] < 100 {
			t.Errorf("the answer %d was seen %d times only", errno, seen[errno])
		}
	}
}

// Bytes at random, and records' bytes with something at random in them.
func TestDecodeOfRandomBytes(t *testing.T) {
	rnd := rand.New(rand.NewSource(6))
	all := rightOnes()
	for range 40000 {
		var b []byte
		switch rnd.Intn(3) {
		case 0:
			b = make([]byte, rnd.Intn(60))
			for i := range b {
				b[i] = byte(rnd.Intn(256) >> rnd.Intn(9))
			}
		case 1:
			b = laid(all[rnd.Intn(len(all))].r)
			for range 1 + rnd.Intn(3) {
				b[rnd.Intn(len(b))] = byte(rnd.Intn(256) >> rnd.Intn(9))
			}
		default:
			b = laid(randomRecord(rnd))
			if rnd.Intn(4) == 0 {
				b = b[:rnd.Intn(len(b)+1)]
			}
		}
		decodesAsTold(t, b)
	}
}

// randomRecord is mostly a right one: its numbers are small, so that they often
// lie at their bounds.
func randomRecord(rnd *rand.Rand) api.Record {
	number := func() uint64 { return uint64(rnd.Intn(6)) }
	r := api.Record{Kind: allKinds[rnd.Intn(len(allKinds))], LSN: 3 + number()}
	if usesTxn(r.Kind) {
		r.Txn, r.Prev = 1+rnd.Intn(9), number()
	}
	if usesChange(r.Kind) {
		r.Change = api.Change{Kind: rnd.Intn(4), Page: rnd.Intn(33), Slot: rnd.Intn(9)}
		if r.Change.Kind != api.Insert {
			r.Change.Old = long(rnd.Intn(22))
		}
		if r.Change.Kind != api.Delete {
			r.Change.New = long(rnd.Intn(22))
		}
	}
	if r.Kind == api.RClr {
		r.Next = number()
	}
	if r.Kind == api.RSave {
		r.Save = rnd.Intn(10)
	}
	if r.Kind != api.RCheck {
		return r
	}
	r.Begin = number()
	txn, page := 0, -1
	for range rnd.Intn(4) {
		txn += 1 + rnd.Intn(9)
		first := 1 + number()/3
		last := first + number()/3
		r.Txns = append(r.Txns, api.TxnRow{Txn: txn, State: 1 + rnd.Intn(3), First: first, Last: last, Next: min(last, number())})
	}
	for range rnd.Intn(4) {
		page += 1 + rnd.Intn(9)
		r.Dirty = append(r.Dirty, api.DirtyRow{Page: page, Rec: 1 + number()/2})
	}
	return r
}

func TestRandomRecords(t *testing.T) {
	rnd := rand.New(rand.NewSource(66))
	right := 0
	for range 40000 {
		r := randomRecord(rnd)
		want := rightByWords(r)
		b, errno := Encode(r)
		if Right(r) != want || (errno == api.OK) != want {
			t.Fatalf("Right, Encode of %#v: %v, %d", r, Right(r), errno)
		}
		if !want {
			continue
		}
		right++
		if back, errno := Decode(b); errno != api.OK || !alike(back, r) || !Same(back, r) {
			t.Fatalf("Decode of the bytes of %#v: %d, %#v", r, errno, back)
		}
	}
	if right < 5000 {
		t.Errorf("only %d records were right", right)
	}
}

// R3: what goes in stays as it is, what lies behind a list's length plays no
// part, and what comes out is new memory.

func TestArgumentsStay(t *testing.T) {
	for _, n := range append(rightOnes(), wrongOnes()...) {
		txns := append(append([]api.TxnRow{}, n.r.Txns...), api.TxnRow{Txn: -7, State: 77})
		dirty := append(append([]api.DirtyRow{}, n.r.Dirty...), api.DirtyRow{Page: -7})
		r := n.r
		r.Txns, r.Dirty = txns[:len(txns)-1], dirty[:len(dirty)-1]
		a, errnoA := Encode(r)
		b, errnoB := Encode(n.r)
		if errnoA != errnoB || !bytes.Equal(a, b) || Right(r) != Right(n.r) || Size(r) != Size(n.r) || !Same(r, n.r) {
			t.Errorf("what lies behind the lists plays a part (%s): %#v", n.what, n.r)
		}
		if !alike(r, n.r) || txns[len(txns)-1] != (api.TxnRow{Txn: -7, State: 77}) || dirty[len(dirty)-1] != (api.DirtyRow{Page: -7}) {
			t.Errorf("an argument was changed (%s): %#v", n.what, n.r)
		}
	}
}

func TestDecodeLeavesItsBytes(t *testing.T) {
	for _, n := range rightOnes() {
		b := laid(n.r)
		memory := append(bytes.Clone(b), 170, 187, 204)
		for end := range len(b) + 1 {
			r, errno := Decode(memory[:end])
			if want := end == len(b); (errno == api.OK) != want || want && !alike(r, n.r) {
				t.Errorf("Decode (%s) of %d of %d bytes: %d", n.what, end, len(b), errno)
			}
		}
		if !bytes.Equal(memory[:len(b)], b) || !bytes.Equal(memory[len(b):], []byte{170, 187, 204}) {
			t.Errorf("Decode (%s) changed its bytes", n.what)
		}
	}
}

func TestNewMemory(t *testing.T) {
	for _, n := range rightOnes() {
		in := with(n.r, func(*api.Record) {})
		b, _ := Encode(in)
		r, _ := Decode(b)
		for i := range b {
			b[i] = 0xee
		}
		if !alike(r, n.r) {
			t.Errorf("a record shares memory with its bytes (%s)", n.what)
		}
		again, _ := Encode(in)
		if !bytes.Equal(again, laid(n.r)) {
			t.Errorf("bytes share memory with other bytes (%s)", n.what)
		}
		second, _ := Decode(again)
		for i := range r.Txns {
			r.Txns[i] = api.TxnRow{}
		}
		for i := range r.Dirty {
			r.Dirty[i] = api.DirtyRow{}
		}
		_ = append(r.Txns, api.TxnRow{Txn: -1})
		_ = append(r.Dirty, api.DirtyRow{Page: -1})
		if !alike(second, n.r) || !alike(in, n.r) {
			t.Errorf("records share memory (%s)", n.what)
		}
	}
}

// R6: the same arguments, the same answers, whatever was asked between.
func TestSameAnswersAgain(t *testing.T) {
	all := append(rightOnes(), wrongOnes()...)
	first := make([][]byte, len(all))
	for i, n := range all {
		first[i], _ = Encode(n.r)
	}
	for i := len(all) - 1; i >= 0; i-- {
		if b, _ := Encode(all[i].r); !bytes.Equal(b, first[i]) {
			t.Errorf("Encode (%s) answers otherwise the second time", all[i].what)
		}
	}
}
