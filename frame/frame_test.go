package frame

import (
	"bytes"
	"encoding/binary"
	"hash/crc32"
	"math"
	"math/rand"
	"reflect"
	"slices"
	"strings"
	"testing"

	"quayside/api"
	"quayside/record"
)

var allKinds = []int{api.RUpdate, api.RClr, api.RCommit, api.RAbort, api.REnd, api.RSave, api.RBegin, api.RCheck}

// plain is an ordinary right record of a kind; its LSN is above 1.
func plain(kind int, lsn uint64) api.Record {
	r := api.Record{Kind: kind, LSN: lsn}
	switch kind {
	case api.RBegin:
		return r
	case api.RCheck:
		r.Begin = lsn - 1
		r.Txns = []api.TxnRow{{Txn: 1, State: api.Running, First: 1, Last: lsn - 1, Next: 1}, {Txn: 7, State: api.Committed, First: 1, Last: 1}}
		r.Dirty = []api.DirtyRow{{Page: 0, Rec: 1}, {Page: 4, Rec: lsn - 1}}
		return r
	}
	r.Txn, r.Prev = 2, lsn-1
	switch kind {
	case api.RUpdate:
		r.Change = api.Change{Kind: api.Insert, Page: 3, Slot: 1, New: "ab"}
	case api.RClr:
		r.Change = api.Change{Kind: api.Update, Page: 3, Slot: 1, Old: "ab", New: "c"}
		r.Next = lsn - 1
	case api.RSave:
		r.Save = 3
	}
	return r
}

// with is a record of which one thing is made another one; its lists are its
// own, so that no two records of a test share them.
func with(r api.Record, make func(*api.Record)) api.Record {
	r.Txns = slices.Clone(r.Txns)
	r.Dirty = slices.Clone(r.Dirty)
	make(&r)
	return r
}

// fullest is a checkpoint with as many rows as there may be: no record has more bytes.
func fullest(lsn uint64) api.Record {
	r := api.Record{Kind: api.RCheck, LSN: lsn, Begin: lsn - 1}
	for i := range api.MaxRows {
		r.Txns = append(r.Txns, api.TxnRow{Txn: i + 1, State: i%3 + 1, First: 1, Last: lsn - 1, Next: uint64(i % 2)})
	}
	for i := range api.MaxPages {
		r.Dirty = append(r.Dirty, api.DirtyRow{Page: i, Rec: lsn - 1})
	}
	return r
}

// rightOnes are right records: of each kind, and at the edges.
func rightOnes() []api.Record {
	var all []api.Record
	for _, kind := range allKinds {
		all = append(all, plain(kind, 2), plain(kind, 9), plain(kind, api.MaxLSN))
	}
	long := strings.Repeat("v", api.MaxValue)
	for _, kind := range []int{api.RUpdate, api.RClr} {
		all = append(all,
			with(plain(kind, 9), func(r *api.Record) { r.Change = api.Change{Kind: api.Insert} }),
			with(plain(kind, 9), func(r *api.Record) { r.Change = api.Change{Kind: api.Delete, Page: 31, Slot: 7, Old: long} }),
			with(plain(kind, 9), func(r *api.Record) {
				r.Change = api.Change{Kind: api.Update, Page: 31, Slot: 7, Old: long, New: long}
			}))
	}
	return append(all,
		api.Record{Kind: api.RBegin, LSN: 1},
		api.Record{Kind: api.RCommit, LSN: 1, Txn: api.MaxTxn},
		api.Record{Kind: api.RCheck, LSN: 2, Begin: 1},
		api.Record{Kind: api.RCheck, LSN: 2, Begin: 1, Txns: []api.TxnRow{}, Dirty: []api.DirtyRow{}},
		fullest(9), fullest(api.MaxLSN))
}

// wrongOnes are records that aren't right, each by one thing alone.
func wrongOnes() []api.Record {
	all := []api.Record{{}}
	for _, kind := range allKinds {
		for _, wrong := range []func(*api.Record){
			func(r *api.Record) { r.LSN = 0 },
			func(r *api.Record) { r.LSN = api.MaxLSN + 1 },
			func(r *api.Record) { r.LSN = math.MaxUint64 },
			func(r *api.Record) { r.Kind = 0 },
			func(r *api.Record) { r.Kind = -kind },
			func(r *api.Record) { r.Kind = 9 },
			func(r *api.Record) { r.Kind = 256 + kind },
			func(r *api.Record) { r.Txn = -1 },
			func(r *api.Record) { r.Txn = api.MaxTxn + 1 },
			func(r *api.Record) { r.Prev = r.LSN },
			func(r *api.Record) { r.Change.Slot = 8 },
			func(r *api.Record) { r.Next = r.LSN },
			func(r *api.Record) { r.Save = 9 },
			func(r *api.Record) { r.Save = -1 },
			func(r *api.Record) { r.Begin = r.LSN },
			func(r *api.Record) { r.Txns = make([]api.TxnRow, 1) },
			func(r *api.Record) { r.Dirty = make([]api.DirtyRow, 1) },
			func(r *api.Record) { r.Dirty = make([]api.DirtyRow, 65536/10) },
		} {
			all = append(all, with(plain(kind, 9), wrong))
		}
	}
	return append(all,
		with(fullest(9), func(r *api.Record) { r.Txns = append(r.Txns, api.TxnRow{Txn: 99, State: 1, First: 1, Last: 1}) }),
		with(fullest(9), func(r *api.Record) { r.Dirty = append(r.Dirty, api.DirtyRow{Page: 32, Rec: 1}) }))
}

// framed lays bytes into a frame by the chapter's Words, whether they are a
// record's or not, with the library's sum in the place of layer 2's.
func framed(held []byte) []byte {
	b := binary.BigEndian.AppendUint16(nil, uint16(len(held)))
	b = append(b, held...)
	return binary.LittleEndian.AppendUint32(b, crc32.ChecksumIEEE(b))
}

// bytesOf is a right record's bytes.
func bytesOf(t *testing.T, r api.Record) []byte {
	t.Helper()
	b, errno := record.Encode(r)
	if errno != api.OK {
		t.Fatalf("a record of the test isn't right: %#v", r)
	}
	return b
}

// joined is the frames of records, one behind the other.
func joined(t *testing.T, records ...api.Record) []byte {
	t.Helper()
	var b []byte
	for _, r := range records {
		b = append(b, framed(bytesOf(t, r))...)
	}
	return b
}

// alike tells, another way than layer 6, whether two records are alike.
func alike(a, b api.Record) bool {
	for _, r := range []*api.Record{&a, &b} {
		if len(r.Txns) == 0 {
			r.Txns = nil
		}
		if len(r.Dirty) == 0 {
			r.Dirty = nil
		}
	}
	return reflect.DeepEqual(a, b)
}

func allAlike(a, b []api.Record) bool {
	return slices.EqualFunc(a, b, alike)
}

// takes asks that the record is taken, with the place behind its frame.
func takes(t *testing.T, b []byte, at int, want api.Record, end int) {
	t.Helper()
	if r, n, errno := Take(b, at); errno != api.OK || n != end || !alike(r, want) {
		t.Errorf("Take at %d of %d bytes: %#v, %d, %d; want %#v, %d, 0", at, len(b), r, n, errno, want, end)
	}
}

// refuses asks that nothing is taken, and why.
func refuses(t *testing.T, what string, b []byte, at int, want api.Errno) {
	t.Helper()
	if r, n, errno := Take(b, at); errno != want || n != 0 || !alike(r, api.Record{}) {
		t.Errorf("Take at %d of %d bytes (%s): %#v, %d, %d; want nothing, %d", at, len(b), what, r, n, errno, want)
	}
}

// scans asks that just these records are scanned.
func scans(t *testing.T, what string, b []byte, want []api.Record, size int, whole bool) {
	t.Helper()
	if l, n, w := Scan(b); !allAlike(l, want) || n != size || w != whole {
		t.Errorf("Scan of %d bytes (%s): %d records, %d, %t; want %d, %d, %t", len(b), what, len(l), n, w, len(want), size, whole)
	}
}

// P7.1: Put and Room.

func TestPutWrittenOut(t *testing.T) {
	r := api.Record{Kind: api.RCommit, LSN: 5, Txn: 1, Prev: 4}
	want := []byte{0, 21, 3, 0, 0, 0, 0, 0, 0, 0, 5, 0, 0, 0, 1, 0, 0, 0, 0, 0, 0, 0, 4, 0x6F, 0x78, 0xF9, 0xE6}
	if b, errno := Put(r); errno != api.OK || !bytes.Equal(b, want) {
		t.Errorf("Put: %v, %d; want %v", b, errno, want)
	}
	if n := Room(r); n != 27 {
		t.Errorf("Room of an RCommit: %d", n)
	}
}

func TestPutAndRoom(t *testing.T) {
	for _, r := range rightOnes() {
		held := bytesOf(t, r)
		b, errno := Put(r)
		if errno != api.OK || !bytes.Equal(b, framed(held)) {
			t.Errorf("Put(%#v): %v, %d", r, b, errno)
		}
		if n := Room(r); n != len(held)+6 || n != len(b) {
			t.Errorf("Room(%#v): %d, of %d bytes", r, n, len(b))
		}
	}
}

func TestRoomsOfEachKind(t *testing.T) {
	long := strings.Repeat("v", api.MaxValue)
	clr := plain(api.RClr, 9)
	clr.Change.Old, clr.Change.New = long, long
	for _, c := range []struct {
		r    api.Record
		want int
	}{
		{plain(api.RUpdate, 9), 35},
		{plain(api.RClr, 9), 44},
		{clr, api.ClrRoom},
		{plain(api.RCommit, 9), 27},
		{plain(api.RAbort, 9), 27},
		{plain(api.REnd, 9), api.EndRoom},
		{plain(api.RSave, 9), 28},
		{plain(api.RBegin, 9), 27},
		{api.Record{Kind: api.RCheck, LSN: 2, Begin: 1}, 37},
		{plain(api.RCheck, 9), 37 + 2*29 + 2*10},
		{fullest(9), 37 + 16*29 + 32*10},
	} {
		if n := Room(c.r); n != c.want {
			t.Errorf("Room(%#v): %d, want %d", c.r, n, c.want)
		}
	}
}

func TestPutAndRoomOfWrong(t *testing.T) {
	for _, r := range wrongOnes() {
		if b, errno := Put(r); errno != api.ErrArg || len(b) != 0 {
			t.Errorf("Put(%#v): %v, %d", r, b, errno)
		}
		if n := Room(r); n != 0 {
			t.Errorf("Room(%#v): %d", r, n)
		}
	}
}

// P7.1: Take.

func TestTake(t *testing.T) {
	for _, r := range rightOnes() {
		b := joined(t, r)
		takes(t, b, 0, r, len(b))
		put, _ := Put(r)
		takes(t, put, 0, r, len(b))
	}
}

func TestTakeBetweenOtherBytes(t *testing.T) {
	rnd := rand.New(rand.NewSource(71))
	for _, r := range rightOnes() {
		b := joined(t, r)
		for _, sides := range [][2]int{{1, 0}, {0, 1}, {2, 1}, {1, 2}, {27, 27}, {300, 6}, {65536, 3}} {
			ahead, behind := make([]byte, sides[0]), make([]byte, sides[1])
			rnd.Read(ahead)
			rnd.Read(behind)
			all := slices.Concat(ahead, b, behind)
			takes(t, all, len(ahead), r, len(ahead)+len(b))
		}
	}
}

func TestTakeOneBehindTheOther(t *testing.T) {
	all := joined(t, rightOnes()...)
	at := 0
	for _, r := range rightOnes() {
		end := at + len(bytesOf(t, r)) + 6
		takes(t, all, at, r, end)
		at = end
	}
	refuses(t, "behind the last", all, at, api.ErrShort)
}

func TestTakePlaces(t *testing.T) {
	b := joined(t, plain(api.RCommit, 9))
	for _, at := range []int{math.MinInt, math.MinInt + 1, -65536, -2, -1} {
		refuses(t, "below 0", b, at, api.ErrArg)
		refuses(t, "below 0, of nothing", nil, at, api.ErrArg)
	}
	for _, at := range []int{28, 29, 65536, math.MaxInt - 1, math.MaxInt} {
		refuses(t, "above the end", b, at, api.ErrArg)
		refuses(t, "above the end of nothing", nil, at, api.ErrArg)
	}
	for _, at := range []int{1, 2} {
		refuses(t, "above the end of nothing", []byte{}, at, api.ErrArg)
	}
	refuses(t, "the end", b, 27, api.ErrShort)
	refuses(t, "nothing", nil, 0, api.ErrShort)
	refuses(t, "nothing", []byte{}, 0, api.ErrShort)
	takes(t, b, 0, plain(api.RCommit, 9), 27)
}

func TestTakeOfNoneOneAndTwoBytes(t *testing.T) {
	ahead := joined(t, plain(api.RCommit, 9))
	for _, tail := range [][]byte{{}, {0}, {1}, {255}, {0, 0}, {0, 1}, {0, 21}, {1, 0}, {255, 255}} {
		refuses(t, "the tail alone", tail, 0, api.ErrShort)
		refuses(t, "behind a frame", slices.Concat(ahead, tail), len(ahead), api.ErrShort)
	}
}

func TestTakeOfCutOff(t *testing.T) {
	for _, r := range rightOnes() {
		b := joined(t, r)
		for end := range b {
			refuses(t, "cut off", slices.Clone(b[:end]), 0, api.ErrShort)
			refuses(t, "cut off, and the rest behind its length", b[:end], 0, api.ErrShort)
		}
		three := slices.Concat([]byte{7, 7, 7}, b)
		for end := 3; end < len(three); end++ {
			refuses(t, "cut off, at 3", three[:end], 3, api.ErrShort)
		}
	}
}

// Whichever byte becomes whichever other one: a greater number of bytes is
// ErrShort, as it comes first, all else ErrSum.
func TestTakeOfEachByteChanged(t *testing.T) {
	for _, kind := range allKinds {
		whole := joined(t, plain(kind, 9))
		for at, was := range whole {
			for c := range 256 {
				if byte(c) == was {
					continue
				}
				b := slices.Clone(whole)
				b[at] = byte(c)
				want := api.ErrSum
				if at < 2 && byte(c) > was {
					want = api.ErrShort
				}
				refuses(t, "a byte changed", b, 0, want)
				refuses(t, "a byte changed, at 2", slices.Concat([]byte{0, 0}, b), 2, want)
			}
		}
	}
}

// With enough bytes behind, no number of bytes is too great, so that the sum is
// what is wrong.
func TestTakeOfAnotherSizeWithBytesBehind(t *testing.T) {
	sizes := []int{255, 256, 257, 4096, 32767, 32768, 65534, 65535}
	for size := range 150 {
		sizes = append(sizes, size)
	}
	for _, kind := range allKinds {
		b := slices.Concat(joined(t, plain(kind, 9)), make([]byte, 65536))
		was := int(binary.BigEndian.Uint16(b))
		for _, size := range sizes {
			binary.BigEndian.PutUint16(b, uint16(size))
			if size != was {
				refuses(t, "another size", b, 0, api.ErrSum)
			}
		}
	}
}

// The sum is of the size too, and its lowest byte stands first.
func TestTakeOfAnotherSum(t *testing.T) {
	r := plain(api.RCommit, 9)
	held := bytesOf(t, r)
	ofHeld := append([]byte{0, 21}, held...)
	ofHeld = binary.LittleEndian.AppendUint32(ofHeld, crc32.ChecksumIEEE(held))
	refuses(t, "the sum of the record alone", ofHeld, 0, api.ErrSum)
	turned := append([]byte{0, 21}, held...)
	turned = binary.BigEndian.AppendUint32(turned, crc32.ChecksumIEEE(turned))
	refuses(t, "the sum's highest byte first", turned, 0, api.ErrSum)
	refuses(t, "a sum 0", slices.Concat([]byte{0, 21}, held, []byte{0, 0, 0, 0}), 0, api.ErrSum)
}

// noRecords are bytes that are no record's.
func noRecords(t *testing.T) [][]byte {
	all := [][]byte{{}, {0}, {1}, {3}, {9}, {255}, make([]byte, 21), make([]byte, 65535)}
	for _, kind := range allKinds {
		held := bytesOf(t, plain(kind, 9))
		all = append(all, append(slices.Clone(held), 0), framed(held))
		for end := range held {
			all = append(all, held[:end])
		}
		for _, other := range []byte{0, 9, 255} {
			another := slices.Clone(held)
			another[0] = other
			all = append(all, another)
		}
		noLSN := slices.Clone(held)
		copy(noLSN[1:9], make([]byte, 8))
		greatLSN := slices.Clone(held)
		binary.BigEndian.PutUint64(greatLSN[1:9], api.MaxLSN+1)
		all = append(all, noLSN, greatLSN)
	}
	commit := bytesOf(t, plain(api.RCommit, 9))
	return append(all, append(slices.Clone(commit), make([]byte, 65535-len(commit))...))
}

func TestTakeOfNoRecord(t *testing.T) {
	for _, held := range noRecords(t) {
		b := framed(held)
		refuses(t, "no record's bytes", b, 0, api.ErrForm)
		refuses(t, "no record's bytes, between others", slices.Concat([]byte{7}, b, []byte{7}), 1, api.ErrForm)
		for _, end := range []int{0, 1, 2, len(b) / 2, len(b) - 5, len(b) - 1} {
			refuses(t, "no record's bytes, cut off", b[:min(end, len(b)-1)], 0, api.ErrShort)
		}
		b[len(b)-1] ^= 128
		refuses(t, "no record's bytes, and a wrong sum", b, 0, api.ErrSum)
	}
}

func TestTakeOfTheLeastAndTheGreatestSize(t *testing.T) {
	for size := range 6 {
		refuses(t, "size 0, too short", make([]byte, size), 0, api.ErrShort)
	}
	refuses(t, "size 0", framed(nil), 0, api.ErrForm)
	refuses(t, "size 0, wrong sum", make([]byte, 6), 0, api.ErrSum)
	great := bytes.Repeat([]byte{255}, 65535+6)
	refuses(t, "size 65535, wrong sum", great, 0, api.ErrSum)
	refuses(t, "size 65535, a byte too short", great[:65535+5], 0, api.ErrShort)
	refuses(t, "size 65535, six bytes too short", great[:65535], 0, api.ErrShort)
	refuses(t, "size 65535, wrong sum, at 5", append(great, 255, 255, 255, 255, 255), 5, api.ErrSum)
	refuses(t, "size 65535, from 1 on too short", great, 1, api.ErrShort)
	refuses(t, "size 65535", framed(make([]byte, 65535)), 0, api.ErrForm)
}

// P7.2: Scan.

func TestScanOfNothing(t *testing.T) {
	scans(t, "nil", nil, nil, 0, true)
	scans(t, "empty", []byte{}, nil, 0, true)
	scans(t, "empty, with a frame behind its length", joined(t, plain(api.RCommit, 9))[:0], nil, 0, true)
}

func TestScanOfOneFrame(t *testing.T) {
	for _, r := range rightOnes() {
		b := joined(t, r)
		scans(t, "one frame", b, []api.Record{r}, len(b), true)
	}
}

// ofLSNs are records of these LSNs, whose kinds take turns.
func ofLSNs(lsns ...uint64) []api.Record {
	var all []api.Record
	for i, lsn := range lsns {
		r := plain(allKinds[i%len(allKinds)], max(lsn, 2))
		if lsn == 1 {
			r = api.Record{Kind: api.RBegin, LSN: 1}
		}
		all = append(all, r)
	}
	return all
}

func TestScanByLSN(t *testing.T) {
	for _, c := range []struct {
		what string
		lsns []uint64
		want int
	}{
		{"rise", []uint64{5, 6}, 2},
		{"rise by more", []uint64{1, 2, 9, 300, api.TopLSN, api.MaxLSN}, 6},
		{"stay", []uint64{5, 5}, 1},
		{"fall", []uint64{6, 5}, 1},
		{"stay at 1", []uint64{1, 1, 1}, 1},
		{"stay at the greatest", []uint64{api.MaxLSN, api.MaxLSN}, 1},
		{"fall from the greatest", []uint64{api.MaxLSN, 1, 2}, 1},
		{"stay later", []uint64{2, 3, 5, 5, 6}, 3},
		{"fall later", []uint64{2, 3, 5, 4, 6}, 3},
		{"fall below the first", []uint64{2, 3, 5, 1, 6, 7}, 3},
		{"fall at the end", []uint64{2, 3, 5, 3}, 3},
		{"stay, and stay", []uint64{2, 2, 2, 3}, 1},
		{"rise in all eight bytes", []uint64{255, 256, 65535, 65536, 1<<32 - 1, 1 << 32, 1<<56 - 1, 1 << 56}, 8},
		{"fall in the highest byte", []uint64{1 << 57, 1<<57 - 1}, 1},
		{"rise in the highest byte alone", []uint64{1<<56 + 9, 1<<57 + 1}, 2},
	} {
		all := ofLSNs(c.lsns...)
		size := len(joined(t, all[:c.want]...))
		scans(t, c.what, joined(t, all...), all[:c.want], size, c.want == len(all))
	}
}

func TestScanOfTwoFramesOfOneLSN(t *testing.T) {
	r := plain(api.RCommit, 5)
	scans(t, "one frame twice", joined(t, r, r), []api.Record{r}, 27, false)
	scans(t, "two kinds", joined(t, r, plain(api.RCheck, 5)), []api.Record{r}, 27, false)
}

func TestScanOfAFrameAndMore(t *testing.T) {
	r := plain(api.RCommit, 5)
	b := joined(t, r)
	for _, more := range [][]byte{{0}, {255}, {7, 7}, {0, 0}, {0, 0, 0}, make([]byte, 5), make([]byte, 6), make([]byte, 100), make([]byte, 70000)} {
		scans(t, "more bytes behind", slices.Concat(b, more), []api.Record{r}, len(b), false)
		scans(t, "more bytes ahead", slices.Concat(more, b), nil, 0, false)
		scans(t, "these bytes alone", more, nil, 0, false)
	}
}

func TestScanOfABrokenFrameBetween(t *testing.T) {
	first, broken, last := plain(api.RSave, 5), plain(api.RUpdate, 6), plain(api.RCommit, 7)
	head, mid, tail := joined(t, first), joined(t, broken), joined(t, last)
	for at := range mid {
		for bit := range 8 {
			b := slices.Concat(head, mid, tail)
			b[len(head)+at] ^= 1 << bit
			scans(t, "a bit turned between", b, []api.Record{first}, len(head), false)
		}
	}
	for end := range mid {
		if end > 0 {
			scans(t, "bytes lacking between", slices.Concat(head, mid[:end], tail), []api.Record{first}, len(head), false)
		}
	}
	for _, held := range noRecords(t) {
		scans(t, "no record between", slices.Concat(head, framed(held), tail), []api.Record{first}, len(head), false)
		scans(t, "no record first", slices.Concat(framed(held), tail), nil, 0, false)
	}
}

// P7.3.

func TestScanOfFramesCutOff(t *testing.T) {
	var all []api.Record
	for i := range 3 * len(allKinds) {
		all = append(all, plain(allKinds[(5*i)%len(allKinds)], uint64(2+i*i)))
	}
	borders := []int{0}
	for i := range all {
		borders = append(borders, len(joined(t, all[:i+1]...)))
	}
	b := joined(t, all...)
	for end := range len(b) + 1 {
		whole := 0
		for whole < len(all) && borders[whole+1] <= end {
			whole++
		}
		scans(t, "cut off", b[:end], all[:whole], borders[whole], borders[whole] == end)
		scans(t, "cut off, nothing behind", slices.Clone(b[:end]), all[:whole], borders[whole], borders[whole] == end)
	}
}

func TestScanOfAWholeLog(t *testing.T) {
	rnd := rand.New(rand.NewSource(73))
	var all []api.Record
	var b []byte
	lsn := uint64(1)
	for len(b) < api.MaxLog {
		lsn += 1 + uint64(rnd.Intn(1<<20))
		r := plain(allKinds[rnd.Intn(len(allKinds))], lsn)
		put, errno := Put(r)
		if errno != api.OK || len(put) != Room(r) {
			t.Fatalf("Put(%#v): %d bytes, %d", r, len(put), errno)
		}
		all = append(all, r)
		b = append(b, put...)
	}
	scans(t, "a whole log", b, all, len(b), true)
	scans(t, "a whole log but its last byte", b[:len(b)-1], all[:len(all)-1], len(b)-Room(all[len(all)-1]), false)
}

// Ways: who goes through the frames may leave early.
func TestFramesMayBeLeftEarly(t *testing.T) {
	all := ofLSNs(2, 3, 4, 5)
	b := joined(t, all...)
	for most := 1; most <= len(all); most++ {
		var got []api.Record
		for r, end := range frames(b) {
			got = append(got, r)
			if end != len(joined(t, got...)) {
				t.Errorf("the place behind the frame %d: %d", len(got), end)
			}
			if len(got) == most {
				break
			}
		}
		if !allAlike(got, all[:most]) {
			t.Errorf("left behind %d records: %d came", most, len(got))
		}
	}
}

// All promises against the chapter's own words, at any bytes.

// taken is Take by the words.
func taken(b []byte, at int) (api.Record, int, api.Errno) {
	if at < 0 || at > len(b) {
		return api.Record{}, 0, api.ErrArg
	}
	rest := b[at:]
	if len(rest) < 2 || len(rest) < int(rest[0])*256+int(rest[1])+6 {
		return api.Record{}, 0, api.ErrShort
	}
	size := int(rest[0])*256 + int(rest[1])
	if crc32.ChecksumIEEE(rest[:2+size]) != binary.LittleEndian.Uint32(rest[2+size:]) {
		return api.Record{}, 0, api.ErrSum
	}
	r, errno := record.Decode(rest[2 : 2+size])
	if errno != api.OK {
		return api.Record{}, 0, api.ErrForm
	}
	return r, at + size + 6, api.OK
}

// scanned is Scan by the words.
func scanned(b []byte) ([]api.Record, int, bool) {
	var all []api.Record
	at := 0
	for {
		r, end, errno := taken(b, at)
		if errno != api.OK || len(all) > 0 && r.LSN <= all[len(all)-1].LSN {
			return all, at, at == len(b)
		}
		all, at = append(all, r), end
	}
}

func asTheWords(t *testing.T, b []byte) {
	t.Helper()
	for at := -1; at <= len(b)+1; at++ {
		r, end, errno := taken(b, at)
		if errno == api.OK {
			takes(t, b, at, r, end)
			if put, _ := Put(r); !bytes.Equal(put, b[at:end]) {
				t.Errorf("what was taken at %d isn't put as it stood there", at)
			}
		} else {
			refuses(t, "by the words", b, at, errno)
		}
	}
	l, n, whole := scanned(b)
	scans(t, "by the words", b, l, n, whole)
}

func TestAnyBytes(t *testing.T) {
	rnd := rand.New(rand.NewSource(74))
	for range 2000 {
		b := make([]byte, rnd.Intn(90))
		rnd.Read(b)
		if rnd.Intn(2) == 0 && len(b) > 0 {
			b[0] = 0
		}
		asTheWords(t, b)
	}
	for range 1000 {
		b := joined(t, ofLSNs(uint64(2+rnd.Intn(3)), uint64(2+rnd.Intn(5)), uint64(2+rnd.Intn(7)))...)
		for range rnd.Intn(3) {
			b[rnd.Intn(len(b))] = byte(rnd.Intn(256))
		}
		from := rnd.Intn(10) / 9 * rnd.Intn(len(b))
		asTheWords(t, b[from:from+rnd.Intn(len(b)-from+1)])
	}
}

// R3.

func TestPutLeavesItsRecord(t *testing.T) {
	for _, r := range append(rightOnes(), wrongOnes()...) {
		txns := append(slices.Clone(r.Txns), api.TxnRow{Txn: -7, State: 77})
		dirty := append(slices.Clone(r.Dirty), api.DirtyRow{Page: -7})
		in := r
		in.Txns, in.Dirty = txns[:len(txns)-1], dirty[:len(dirty)-1]
		a, errnoA := Put(in)
		b, errnoB := Put(r)
		if errnoA != errnoB || !bytes.Equal(a, b) || Room(in) != Room(r) {
			t.Errorf("what lies behind the lists plays a part: %#v", r)
		}
		if !alike(in, r) || txns[len(txns)-1] != (api.TxnRow{Txn: -7, State: 77}) || dirty[len(dirty)-1] != (api.DirtyRow{Page: -7}) {
			t.Errorf("an argument was changed: %#v", r)
		}
	}
}

func TestTakeAndScanLeaveTheirBytes(t *testing.T) {
	for _, r := range rightOnes() {
		frame := joined(t, r)
		next := joined(t, plain(api.RCommit, api.MaxLSN))
		memory := slices.Concat([]byte{7}, frame, next)
		before := slices.Clone(memory)
		takes(t, memory[:1+len(frame)], 1, r, 1+len(frame))
		scans(t, "with a frame behind its length", memory[1:1+len(frame)], []api.Record{r}, len(frame), true)
		Take(memory, 0)
		Scan(memory)
		if !bytes.Equal(memory, before) {
			t.Errorf("bytes that were handed in were changed: %#v", r)
		}
	}
}

// spoil overwrites all that a record holds in lists, and behind them.
func spoil(r api.Record) {
	txns, dirty := r.Txns[:cap(r.Txns)], r.Dirty[:cap(r.Dirty)]
	for i := range txns {
		txns[i] = api.TxnRow{Txn: -1}
	}
	for i := range dirty {
		dirty[i] = api.DirtyRow{Page: -1}
	}
}

func TestPutAnswersNewMemory(t *testing.T) {
	for _, r := range rightOnes() {
		in := with(r, func(*api.Record) {})
		first, _ := Put(in)
		second, _ := Put(in)
		for i := range first[:cap(first)] {
			first[:cap(first)][i] = 0xEE
		}
		if !alike(in, r) || !bytes.Equal(second, joined(t, r)) {
			t.Errorf("a frame shares memory with another one: %#v", r)
		}
		spoil(in)
		if !bytes.Equal(second, joined(t, r)) {
			t.Errorf("a frame shares memory with its record: %#v", r)
		}
	}
}

func TestTakeAnswersNewMemory(t *testing.T) {
	for _, r := range rightOnes() {
		b := joined(t, r)
		first, _, _ := Take(b, 0)
		second, _, _ := Take(b, 0)
		spoil(first)
		if !bytes.Equal(b, joined(t, r)) || !alike(second, r) {
			t.Errorf("records that were taken share memory: %#v", r)
		}
		clear(b)
		if !alike(second, r) {
			t.Errorf("a record shares memory with the bytes it was taken from: %#v", r)
		}
	}
}

func TestScanAnswersNewMemory(t *testing.T) {
	want := []api.Record{plain(api.RUpdate, 5), fullest(6), plain(api.RCheck, 7), plain(api.RClr, 8), plain(api.RCheck, 9)}
	for spoilt := range want {
		b := joined(t, want...)
		first, _, _ := Scan(b)
		second, _, _ := Scan(b)
		if len(first) != len(want) || len(second) != len(want) {
			t.Fatalf("Scan: %d and %d records", len(first), len(second))
		}
		clear(b)
		spoil(first[spoilt])
		for i := range want {
			if i != spoilt && !alike(first[i], want[i]) {
				t.Errorf("the records %d and %d of one scan share memory", i, spoilt)
			}
		}
		clear(first[:cap(first)])
		if !allAlike(second, want) {
			t.Error("a scan shares memory with another one, or with its bytes")
		}
	}
}

// R4.

func TestEmptyListsAreAlike(t *testing.T) {
	for _, kind := range allKinds {
		none := with(plain(kind, 9), func(r *api.Record) { r.Txns, r.Dirty = nil, nil })
		empty := with(none, func(r *api.Record) { r.Txns, r.Dirty = []api.TxnRow{}, []api.DirtyRow{} })
		a, errnoA := Put(none)
		b, errnoB := Put(empty)
		if errnoA != api.OK || errnoB != api.OK || !bytes.Equal(a, b) || Room(none) != Room(empty) {
			t.Errorf("no list and an empty one differ, of the kind %d: %d, %d", kind, errnoA, errnoB)
		}
	}
}

// R6.

func TestSameAnswersAgain(t *testing.T) {
	all := append(rightOnes(), wrongOnes()...)
	first := make([][]byte, len(all))
	for i, r := range all {
		first[i], _ = Put(r)
	}
	for i := len(all) - 1; i >= 0; i-- {
		b, _ := Put(all[i])
		if !bytes.Equal(b, first[i]) || Room(all[i]) != len(b) {
			t.Errorf("another answer when asked again: %#v", all[i])
		}
		asked, end, errno := Take(b, 0)
		Scan(first[0])
		again, endAgain, errnoAgain := Take(b, 0)
		if !alike(asked, again) || end != endAgain || errno != errnoAgain {
			t.Errorf("Take answers otherwise when asked again: %#v", all[i])
		}
	}
}
