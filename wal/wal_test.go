package wal

import (
	"bytes"
	"fmt"
	"math"
	"math/rand"
	"slices"
	"strings"
	"testing"

	"quayside/api"
	"quayside/frame"
	"quayside/record"
	"quayside/tape"
)

const (
	maxLog = api.MaxLog
	maxLSN = api.MaxLSN
	topLSN = api.TopLSN
	// small is how many bytes the frame of a commit has.
	small = 27
)

func commit(txn int) api.Record {
	return api.Record{Kind: api.RCommit, Txn: txn}
}

func insert(txn int, value string) api.Record {
	return api.Record{Kind: api.RUpdate, Txn: txn, Change: api.Change{Kind: api.Insert, Page: 3, Slot: 1, New: value}}
}

// check is right if its number is above 3.
func check() api.Record {
	return api.Record{
		Kind:  api.RCheck,
		Begin: 3,
		Txns:  []api.TxnRow{{Txn: 1, State: api.Running, First: 1, Last: 2, Next: 1}, {Txn: 5, State: api.Committed, First: 2, Last: 3}},
		Dirty: []api.DirtyRow{{Page: 0, Rec: 1}, {Page: 7, Rec: 3}},
	}
}

// numbered is a record with a number.
func numbered(r api.Record, n uint64) api.Record {
	r.LSN = n
	return r
}

// framed is the frames of records, one behind the other.
func framed(t *testing.T, records ...api.Record) []byte {
	t.Helper()
	var all []byte
	for _, r := range records {
		b, errno := frame.Put(r)
		if errno != api.OK {
			t.Fatalf("no frame of %v: %d", r, errno)
		}
		all = append(all, b...)
	}
	return all
}

// state is all that a log and its tape tell.
type state struct {
	records                string
	last, durable, pending uint64
	held, left             int
	tape                   string
	synced                 int
	start                  uint64
	room                   int
}

func text(records []api.Record) string {
	var b strings.Builder
	for _, r := range records {
		// A nil list and an empty one are alike.
		fmt.Fprintf(&b, "%d %d %d %d %v %d %d %d %v %v; ",
			r.Kind, r.LSN, r.Txn, r.Prev, r.Change, r.Next, r.Save, r.Begin, r.Txns, r.Dirty)
	}
	return b.String()
}

// told asks all, and holds Get against Records.
func told(t *testing.T, l *Log, x *tape.Tape) state {
	t.Helper()
	records := l.Records()
	for _, r := range records {
		if got, ok := l.Get(r.LSN); !ok || !record.Same(got, r) {
			t.Errorf("Get(%d): %v, %t, not %v", r.LSN, got, ok, r)
		}
	}
	return state{
		text(records), l.Last(), l.Durable(), l.Pending(), l.Held(), l.Left(),
		string(x.Bytes()), x.Synced(), x.Start(), x.Room(),
	}
}

// want asks twice, since asking must change nothing.
func want(t *testing.T, l *Log, x *tape.Tape, wanted state) {
	t.Helper()
	for range 2 {
		if got := told(t, l, x); got != wanted {
			t.Errorf("the log is\n%s\nnot\n%s", short(got), short(wanted))
		}
	}
}

// short keeps a long log from filling the screen.
func short(s state) string {
	return fmt.Sprintf("%.300q (last %d, durable %d, pending %d, held %d, left %d), %d bytes on the tape, %d stand fast, start %d, room %d",
		s.records, s.last, s.durable, s.pending, s.held, s.left, len(s.tape), s.synced, s.start, s.room)
}

func wantErrno(t *testing.T, call string, got, wanted api.Errno) {
	t.Helper()
	if got != wanted {
		t.Errorf("%s: %d, not %d", call, got, wanted)
	}
}

func wantNumber(t *testing.T, call string, n uint64, errno api.Errno, wanted uint64) {
	t.Helper()
	if n != wanted || errno != api.OK {
		t.Errorf("%s: %d, %d, not %d", call, n, errno, wanted)
	}
}

// opened is a new log on a tape.
func opened(t *testing.T, x *tape.Tape, base uint64) *Log {
	t.Helper()
	l, errno := Open(x, base)
	if l == nil || errno != api.OK {
		t.Fatalf("Open: %v, %d", l, errno)
	}
	return l
}

// laid is a log with commits that stand fast, are on the tape, and wait, in this
// order, numbered from 1 on, and its tape.
func laid(t *testing.T, room, fast, onTape, waiting int) (*Log, *tape.Tape) {
	t.Helper()
	x := tape.New(room)
	l := opened(t, x, 0)
	txn := 0
	more := func(n int) {
		for range n {
			txn++
			got, errno := l.Append(commit(txn), 0, 0)
			wantNumber(t, "Append", got, errno, uint64(txn))
		}
	}
	more(fast)
	wantErrno(t, "Write", l.Write(), api.OK)
	wantErrno(t, "Sync", l.Sync(), api.OK)
	more(onTape)
	wantErrno(t, "Write", l.Write(), api.OK)
	more(waiting)
	want(t, l, x, commits(t, room, 0, fast, onTape, waiting))
	return l, x
}

// commits is what such a log and its tape tell when the first ones were trimmed.
func commits(t *testing.T, room, gone, fast, onTape, waiting int) state {
	t.Helper()
	var records []api.Record
	for i := range fast + onTape + waiting {
		records = append(records, numbered(commit(gone+i+1), uint64(gone+i+1)))
	}
	s := state{
		records: text(records),
		last:    uint64(gone + len(records)),
		durable: uint64(gone + fast),
		left:    room - small*len(records),
		tape:    string(framed(t, records[:fast+onTape]...)),
		synced:  small * fast,
		start:   uint64(small * gone),
		room:    room,
	}
	if onTape+waiting > 0 {
		s.pending = uint64(gone + fast + 1)
	}
	return s
}

// P9.2, P9.4: the chapter's example.

func TestExample(t *testing.T) {
	x := tape.New(100)
	l := opened(t, x, 0)
	n, errno := l.Append(commit(1), 0, 60)
	wantNumber(t, "Append", n, errno, 1)
	first := numbered(commit(1), 1)
	want(t, l, x, state{records: text([]api.Record{first}), last: 1, pending: 1, held: 60, left: 13, room: 100})
	n, errno = l.Append(commit(1), 0, 0)
	if n != 0 || errno != api.ErrFull {
		t.Errorf("Append once more: %d, %d", n, errno)
	}
	want(t, l, x, state{records: text([]api.Record{first}), last: 1, pending: 1, held: 60, left: 13, room: 100})
	n, errno = l.Append(commit(1), 0, -27)
	wantNumber(t, "Append of what is held back", n, errno, 2)
	both := text([]api.Record{first, numbered(commit(1), 2)})
	want(t, l, x, state{records: both, last: 2, pending: 1, held: 33, left: 13, room: 100})
}

// P9.1: Open.

func TestOpenWithoutATape(t *testing.T) {
	for _, base := range []uint64{0, 1, maxLSN, math.MaxUint64} {
		if l, errno := Open(nil, base); l != nil || errno != api.ErrArg {
			t.Errorf("Open(nil, %d): %v, %d", base, l, errno)
		}
	}
}

func TestOpenOfAnEmptyTape(t *testing.T) {
	for _, room := range []int{-1, 0, 1, 26, 27, 1000, maxLog, maxLog + 1} {
		x := tape.New(room)
		l := opened(t, x, 5)
		want(t, l, x, state{last: 5, left: x.Room(), room: x.Room()})
	}
	x := &tape.Tape{}
	want(t, opened(t, x, 0), x, state{})
}

func TestOpenOfTheZeroTapeHasNoRoom(t *testing.T) {
	x := &tape.Tape{}
	l := opened(t, x, 0)
	if n, errno := l.Append(commit(1), 0, 0); n != 0 || errno != api.ErrFull {
		t.Errorf("Append: %d, %d", n, errno)
	}
	wantErrno(t, "Write", l.Write(), api.OK)
	wantErrno(t, "Sync", l.Sync(), api.OK)
	if n, errno := l.Trim(maxLSN); n != 0 || errno != api.OK {
		t.Errorf("Trim: %d, %d", n, errno)
	}
	want(t, l, x, state{})
}

// several is records of all kinds, whose numbers rise.
func several() []api.Record {
	return []api.Record{
		numbered(insert(1, "ab"), 2),
		numbered(commit(1), 3),
		numbered(check(), 7),
		{Kind: api.RClr, LSN: 8, Txn: 2, Prev: 5, Change: api.Change{Kind: api.Delete, Page: 31, Slot: 7, Old: "x"}, Next: 4},
		{Kind: api.RAbort, LSN: 9, Txn: 2, Prev: 8},
		{Kind: api.REnd, LSN: 20, Txn: 2},
		{Kind: api.RSave, LSN: 21, Txn: 3, Save: 8},
		{Kind: api.RBegin, LSN: 1000},
	}
}

// onto is a tape with bytes on it, of which so many stand fast.
func onto(t *testing.T, room int, b []byte, fast int) *tape.Tape {
	t.Helper()
	x := tape.New(room)
	wantErrno(t, "Append to the tape", x.Append(b[:fast]), api.OK)
	wantErrno(t, "Sync of the tape", x.Sync(), api.OK)
	wantErrno(t, "Append to the tape", x.Append(b[fast:]), api.OK)
	return x
}

// whole is what an opened log tells of records that all stand fast.
func whole(t *testing.T, room int, base uint64, records []api.Record) state {
	t.Helper()
	b := framed(t, records...)
	s := state{records: text(records), last: base, left: room - len(b), tape: string(b), synced: len(b), room: room}
	if len(records) > 0 {
		s.durable = records[len(records)-1].LSN
		s.last = max(base, s.durable)
	}
	return s
}

func TestOpenOfWholeFrames(t *testing.T) {
	for n := range len(several()) + 1 {
		records := several()[:n]
		b := framed(t, records...)
		for fast := range len(b) + 1 {
			x := onto(t, 1000, b, fast)
			want(t, opened(t, x, 0), x, whole(t, 1000, 0, records))
		}
		x := onto(t, len(b), b, 0)
		want(t, opened(t, x, 0), x, whole(t, len(b), 0, records))
	}
}

func TestOpenWithABase(t *testing.T) {
	tests := []struct{ base, empty, behind1000 uint64 }{
		{0, 0, 1000},
		{1, 1, 1000},
		{999, 999, 1000},
		{1000, 1000, 1000},
		{1001, 1001, 1001},
		{topLSN - 1, topLSN - 1, topLSN - 1},
		{topLSN, topLSN, topLSN},
		{maxLSN - 1, maxLSN - 1, maxLSN - 1},
		{maxLSN, maxLSN, maxLSN},
		{maxLSN + 1, maxLSN, maxLSN},
		{math.MaxUint64, maxLSN, maxLSN},
	}
	for _, test := range tests {
		x := tape.New(1000)
		want(t, opened(t, x, test.base), x, state{last: test.empty, left: 1000, room: 1000})
		x = onto(t, 1000, framed(t, several()...), 0)
		l := opened(t, x, test.base)
		wanted := whole(t, 1000, 0, several())
		wanted.last = test.behind1000
		want(t, l, x, wanted)
		n, errno := l.Append(commit(1), 0, 0)
		if wanted.last >= topLSN {
			if n != 0 || errno != api.ErrFull {
				t.Errorf("Append behind the base %d: %d, %d", test.base, n, errno)
			}
			continue
		}
		wantNumber(t, "Append behind a base", n, errno, wanted.last+1)
	}
}

// The last record may have the greatest number: the clock sees it, too.
func TestOpenOfTheGreatestNumber(t *testing.T) {
	records := []api.Record{numbered(commit(1), topLSN), numbered(commit(2), maxLSN)}
	x := onto(t, 100, framed(t, records...), 0)
	want(t, opened(t, x, 7), x, whole(t, 100, 7, records))
}

// TestOpenChops lays something that is no frame, or none that belongs there,
// behind frames.
func TestOpenChops(t *testing.T) {
	wrongSum := framed(t, numbered(commit(9), 2000))
	wrongSum[len(wrongSum)-1]++
	wrongSize := framed(t, numbered(commit(9), 2000))
	wrongSize[1]++
	wrongKind := framed(t, numbered(commit(9), 2000))
	wrongKind[2] = 9
	tests := map[string][]byte{
		"one byte":                 {0},
		"two bytes":                {0, 0},
		"the frame of no bytes":    {0, 0, 0xff, 0xff, 0xff, 0xff},
		"zeros":                    make([]byte, 100),
		"other bytes":              bytes.Repeat([]byte{0xff}, 100),
		"a wrong sum":              wrongSum,
		"a wrong size":             wrongSize,
		"a wrong kind":             wrongKind,
		"the same number":          framed(t, numbered(commit(9), 1000)),
		"a lower number":           framed(t, numbered(commit(9), 999)),
		"the number 1":             framed(t, numbered(commit(9), 1)),
		"a lower number, a higher": framed(t, numbered(commit(9), 999), numbered(commit(9), 2000)),
		"a wrong sum, a frame":     append(slices.Clone(wrongSum), framed(t, numbered(commit(9), 2001))...),
		"a byte, a frame":          append([]byte{1}, framed(t, numbered(commit(9), 2000))...),
	}
	b := framed(t, several()...)
	for name, behind := range tests {
		t.Run(name, func(t *testing.T) {
			all := append(slices.Clone(b), behind...)
			for _, fast := range []int{0, 1, len(b) - 1, len(b), len(b) + 1, len(all)} {
				x := onto(t, 1000, all, fast)
				want(t, opened(t, x, 6), x, whole(t, 1000, 6, several()))
			}
		})
	}
	// The same with no frame ahead.
	for _, behind := range [][]byte{{0}, make([]byte, 100), wrongSum, wrongSize, wrongKind} {
		x := onto(t, 1000, behind, len(behind))
		want(t, opened(t, x, 6), x, whole(t, 1000, 6, nil))
	}
}

func TestOpenOfFramesCutOffAnywhere(t *testing.T) {
	b := framed(t, several()...)
	for n := range len(b) + 1 {
		var left []api.Record
		for i := range several() {
			if len(framed(t, several()[:i+1]...)) <= n {
				left = several()[:i+1]
			}
		}
		for _, fast := range []int{0, n / 2, n} {
			x := onto(t, 1000, b[:n], fast)
			want(t, opened(t, x, 1), x, whole(t, 1000, 1, left))
		}
	}
}

// What was cut off the tape ahead of Open plays no part.
func TestOpenOfATapeThatWasCut(t *testing.T) {
	b := framed(t, several()...)
	x := onto(t, 1000, b, len(b))
	ahead := len(framed(t, several()[:3]...))
	wantErrno(t, "Cut", x.Cut(ahead), api.OK)
	wanted := whole(t, 1000, 0, several()[3:])
	wanted.start = uint64(ahead)
	want(t, opened(t, x, 0), x, wanted)
}

// A log that is opened twice is the same, whatever the first one still has that
// waits.
func TestOpenAgain(t *testing.T) {
	_, x := laid(t, 1000, 2, 3, 4)
	want(t, opened(t, x, 0), x, commits(t, 1000, 0, 5, 0, 0))
	want(t, opened(t, x, 0), x, commits(t, 1000, 0, 5, 0, 0))
}

// What is held back isn't on the tape.
func TestOpenHoldsNothingBack(t *testing.T) {
	x := tape.New(1000)
	l := opened(t, x, 0)
	l.Append(commit(1), 0, 300)
	l.Write()
	l.Sync()
	if l.Held() != 300 {
		t.Errorf("Held: %d", l.Held())
	}
	want(t, opened(t, x, 0), x, commits(t, 1000, 0, 1, 0, 0))
}

// P9.2: Append.

func TestAppendNumbers(t *testing.T) {
	x := tape.New(1000)
	l := opened(t, x, 5)
	for _, step := range []struct{ see, floor, want uint64 }{
		{0, 0, 6},
		{0, 6, 7},
		{0, 7, 8},
		{0, 20, 21},
		{0, 3, 22},
		{100, 0, 101},
		{50, 0, 102},
		{200, 300, 301},
		{400, 300, 401},
		{0, topLSN - 3, topLSN - 2},
		{topLSN - 1, 0, topLSN},
	} {
		l.See(step.see)
		n, errno := l.Append(commit(1), step.floor, 0)
		wantNumber(t, "Append", n, errno, step.want)
		if l.Last() != step.want {
			t.Errorf("Last: %d, not %d", l.Last(), step.want)
		}
	}
	if got := len(l.Records()); got != 11 {
		t.Errorf("%d records", got)
	}
}

func TestAppendOfARecordWithANumber(t *testing.T) {
	l, x := laid(t, 1000, 1, 1, 1)
	before := told(t, l, x)
	for _, n := range []uint64{1, 3, 4, 5, topLSN, maxLSN, maxLSN + 1, math.MaxUint64} {
		got, errno := l.Append(numbered(commit(1), n), 0, 0)
		if got != 0 || errno != api.ErrArg {
			t.Errorf("Append of a record with the number %d: %d, %d", n, got, errno)
		}
		want(t, l, x, before)
	}
}

func TestAppendWithHoldsAtTheEdges(t *testing.T) {
	tests := []struct {
		hold   int
		wanted api.Errno
	}{
		{math.MinInt, api.ErrArg},
		{-1 << 32, api.ErrArg},
		{-maxLog - 1, api.ErrArg},
		{-maxLog, api.OK},
		{-maxLog + 1, api.OK},
		{-1, api.OK},
		{0, api.OK},
		{1, api.OK},
		{maxLog - small, api.OK},
		{maxLog - small + 1, api.ErrFull},
		{maxLog - 1, api.ErrFull},
		{maxLog, api.ErrFull},
		{maxLog + 1, api.ErrArg},
		{1 << 32, api.ErrArg},
		{math.MaxInt, api.ErrArg},
	}
	for _, test := range tests {
		x := tape.New(maxLog)
		l := opened(t, x, 0)
		n, errno := l.Append(commit(1), 0, test.hold)
		if test.wanted != api.OK {
			wantErrno(t, fmt.Sprint("Append with the hold ", test.hold), errno, test.wanted)
			if n != 0 {
				t.Errorf("%d beside an error", n)
			}
			want(t, l, x, state{left: maxLog, room: maxLog})
			continue
		}
		wantNumber(t, fmt.Sprint("Append with the hold ", test.hold), n, errno, 1)
		wanted := commits(t, maxLog, 0, 0, 0, 1)
		wanted.held = max(test.hold, 0)
		wanted.left -= wanted.held
		want(t, l, x, wanted)
	}
}

// A hold that is too great is told, however great the room and what is held back.
func TestAppendWithHoldsBeyondTheEdgesOfWhatIsHeld(t *testing.T) {
	x := tape.New(maxLog)
	l := opened(t, x, 0)
	n, errno := l.Append(commit(1), 0, maxLog-small)
	wantNumber(t, "Append", n, errno, 1)
	before := told(t, l, x)
	for _, hold := range []int{-maxLog - 1, math.MinInt, maxLog + 1, math.MaxInt} {
		n, errno := l.Append(commit(2), 0, hold)
		if n != 0 || errno != api.ErrArg {
			t.Errorf("Append with the hold %d: %d, %d", hold, n, errno)
		}
		want(t, l, x, before)
	}
	n, errno = l.Append(commit(2), 0, -maxLog)
	wantNumber(t, "Append with the hold -MaxLog", n, errno, 2)
	want(t, l, x, commits(t, maxLog, 0, 0, 0, 2))
}

func TestAppendWithNoNumberLeft(t *testing.T) {
	tests := []struct {
		last, floor uint64
		hold        int
		want        uint64
	}{
		{topLSN - 1, 0, 0, topLSN},
		{topLSN - 1, 0, -1, topLSN},
		{topLSN, 0, 1, 0},
		{topLSN, 0, 0, 0},
		{topLSN, 0, -1, topLSN + 1},
		{topLSN, 0, -maxLog, topLSN + 1},
		{topLSN + 5, 0, 0, 0},
		{topLSN + 5, 0, maxLog, 0},
		{topLSN + 5, 0, -1, topLSN + 6},
		{maxLSN - 1, 0, 0, 0},
		{maxLSN - 1, 0, -1, maxLSN},
		{maxLSN, 0, 0, 0},
		{maxLSN, 0, -1, 0},
		{maxLSN, 0, -maxLog, 0},
		{0, topLSN - 1, 0, topLSN},
		{0, topLSN, 0, 0},
		{0, topLSN, -1, topLSN + 1},
		{0, maxLSN - 1, -1, maxLSN},
		{0, maxLSN, 0, 0},
		{0, maxLSN, -1, 0},
		{0, maxLSN + 1, -1, 0},
		{0, math.MaxUint64, 0, 0},
		{0, math.MaxUint64, -1, 0},
	}
	for _, test := range tests {
		for _, seen := range []bool{false, true} {
			x := tape.New(100)
			l := opened(t, x, test.last)
			if seen {
				l = opened(t, x, 0)
				l.See(test.last)
			}
			n, errno := l.Append(commit(1), test.floor, test.hold)
			if test.want == 0 {
				if n != 0 || errno != api.ErrFull {
					t.Errorf("Append at %d above %d with the hold %d: %d, %d", test.last, test.floor, test.hold, n, errno)
				}
				want(t, l, x, state{last: test.last, left: 100, room: 100})
				continue
			}
			wantNumber(t, "Append", n, errno, test.want)
			records := text([]api.Record{numbered(commit(1), test.want)})
			want(t, l, x, state{records: records, last: test.want, pending: test.want, left: 100 - small, room: 100})
		}
	}
}

// wrong is records that are right with no number, or with none below 9.
func wrong() []api.Record {
	long := strings.Repeat("x", api.MaxValue+1)
	manyRows, manyPages := check(), check()
	manyRows.Txns, manyPages.Dirty = nil, nil
	for i := range api.MaxRows + 1 {
		manyRows.Txns = append(manyRows.Txns, api.TxnRow{Txn: i + 1, State: api.Running, First: 1, Last: 1})
	}
	for i := range api.MaxPages + 1 {
		manyPages.Dirty = append(manyPages.Dirty, api.DirtyRow{Page: i, Rec: 1})
	}
	return []api.Record{
		{},
		{Kind: -1, Txn: 1},
		{Kind: 9, Txn: 1},
		commit(0),
		commit(-1),
		commit(api.MaxTxn + 1),
		{Kind: api.RCommit, Txn: 1, Prev: 8},
		{Kind: api.RCommit, Txn: 1, Prev: math.MaxUint64},
		{Kind: api.RCommit, Txn: 1, Save: 1},
		{Kind: api.RBegin, Txn: 1},
		{Kind: api.RSave, Txn: 1},
		{Kind: api.RSave, Txn: 1, Save: api.MaxSaves + 1},
		{Kind: api.RUpdate, Txn: 1},
		insert(1, long),
		{Kind: api.RClr, Txn: 1, Change: insert(1, "a").Change, Next: 8},
		{Kind: api.RCheck},
		{Kind: api.RCheck, Begin: 8},
		{Kind: api.RCheck, Begin: 1, Txns: []api.TxnRow{{Txn: 1, State: api.Running, First: 1, Last: 8}}},
		{Kind: api.RCheck, Begin: 1, Txns: []api.TxnRow{{Txn: 2, State: 1, First: 1, Last: 1}, {Txn: 1, State: 1, First: 1, Last: 1}}},
		{Kind: api.RCheck, Begin: 1, Dirty: []api.DirtyRow{{Page: 1, Rec: 8}}},
		manyRows,
		manyPages,
	}
}

func TestAppendOfARecordThatIsNotRight(t *testing.T) {
	for i, r := range wrong() {
		l, x := laid(t, 10000, 2, 2, 2)
		before := told(t, l, x)
		for _, hold := range []int{-maxLog, -1, 0, 1, 100} {
			for _, floor := range []uint64{0, 6, 7} {
				n, errno := l.Append(r, floor, hold)
				if n != 0 || errno != api.ErrArg {
					t.Errorf("Append of the wrong record %d: %d, %d", i, n, errno)
				}
				want(t, l, x, before)
			}
		}
		// The clock didn't move either.
		n, errno := l.Append(commit(7), 0, 0)
		wantNumber(t, "Append behind an error", n, errno, 7)
		want(t, l, x, commits(t, 10000, 0, 2, 2, 3))
	}
}

// Whether a record is right hangs on the number that it is given.
func TestAppendOfARecordThatIsRightWithItsNumber(t *testing.T) {
	tests := []api.Record{
		{Kind: api.RCommit, Txn: 1, Prev: 8},
		{Kind: api.RClr, Txn: 1, Change: insert(1, "a").Change, Next: 8},
		{Kind: api.RCheck, Begin: 8},
		{Kind: api.RCheck, Begin: 1, Txns: []api.TxnRow{{Txn: 1, State: api.Running, First: 1, Last: 8}}},
		{Kind: api.RCheck, Begin: 1, Dirty: []api.DirtyRow{{Page: 1, Rec: 8}}},
	}
	for _, r := range tests {
		x := tape.New(1000)
		l := opened(t, x, 7)
		if n, errno := l.Append(r, 0, 0); n != 0 || errno != api.ErrArg {
			t.Errorf("Append of %v: %d, %d", r, n, errno)
		}
		n, errno := l.Append(r, 8, 0)
		wantNumber(t, "Append", n, errno, 9)
		if got, ok := l.Get(9); !ok || !record.Same(got, numbered(r, 9)) {
			t.Errorf("Get(9): %v, %t", got, ok)
		}
	}
}

// kinds is a right record of each kind, without its number, for numbers above 8.
func kinds() []api.Record {
	var all []api.Record
	for _, r := range several() {
		all = append(all, numbered(r, 0))
	}
	return all
}

func TestAppendWithJustEnoughRoom(t *testing.T) {
	for _, r := range kinds() {
		size := frame.Room(numbered(r, 9))
		for ahead := range 3 {
			for _, held := range []int{0, 1, 40} {
				for _, hold := range []int{-maxLog, -41, -40, -39, -1, 0, 1, 50} {
					for _, less := range []int{0, 1, 2} {
						justEnough(t, r, size, ahead, held, hold, less)
					}
				}
			}
		}
	}
}

// justEnough appends where so many bytes less than are needed are there.
func justEnough(t *testing.T, r api.Record, size, ahead, held, hold, less int) {
	t.Helper()
	then := max(held+hold, 0)
	room := ahead*small + size + then - less
	x := tape.New(room)
	l := opened(t, x, 8)
	for i := range ahead {
		more := 0
		if i == 0 {
			more = held
		}
		if _, errno := l.Append(commit(1), 0, more); errno != api.OK {
			// What is to be held back ahead doesn't fit itself.
			return
		}
		if i%2 == 1 {
			l.Write()
		}
	}
	if ahead == 0 && held > 0 {
		return
	}
	before := told(t, l, x)
	n, errno := l.Append(r, 0, hold)
	if less > 0 {
		if n != 0 || errno != api.ErrFull {
			t.Errorf("Append of kind %d with %d bytes too few: %d, %d", r.Kind, less, n, errno)
		}
		want(t, l, x, before)
		return
	}
	wantNumber(t, "Append with just enough room", n, errno, before.last+1)
	if l.Left() != 0 || l.Held() != then {
		t.Errorf("Left %d, Held %d, not %d", l.Left(), l.Held(), then)
	}
}

// The errors, where several apply, in the order in which the promise names them.
func TestAppendTellsTheFirstError(t *testing.T) {
	const little, much = 10, 1000
	bad := api.Record{}
	tests := []struct {
		name   string
		room   int
		last   uint64
		r      api.Record
		hold   int
		wanted api.Errno
	}{
		{"a number, no number left", much, maxLSN, numbered(commit(1), 1), 0, api.ErrArg},
		{"a number, no room", little, 0, numbered(commit(1), 1), 0, api.ErrArg},
		{"a number, all else", little, maxLSN, numbered(bad, 1), maxLog + 1, api.ErrArg},
		{"a hold that is too great, no number left", much, maxLSN, commit(1), maxLog + 1, api.ErrArg},
		{"a hold that is too great, no room", little, 0, commit(1), maxLog + 1, api.ErrArg},
		{"a hold that is too small, no number left", much, maxLSN, commit(1), -maxLog - 1, api.ErrArg},
		{"a hold that is too small, no room", little, 0, commit(1), -maxLog - 1, api.ErrArg},
		{"no number left, not right", much, maxLSN, bad, 0, api.ErrFull},
		{"no number left with a hold below 0, not right", much, maxLSN, bad, -1, api.ErrFull},
		{"no number but spare ones, not right", much, topLSN, bad, 0, api.ErrFull},
		{"a spare number, not right", much, topLSN, bad, -1, api.ErrArg},
		{"not right, no room", little, 0, bad, 0, api.ErrArg},
		{"not right, no room for the hold", much, 0, bad, maxLog, api.ErrArg},
		{"no room alone", little, 0, commit(1), 0, api.ErrFull},
		{"no room for the hold alone", much, 0, commit(1), maxLog, api.ErrFull},
	}
	for _, test := range tests {
		t.Run(test.name, func(t *testing.T) {
			x := tape.New(test.room)
			l := opened(t, x, test.last)
			n, errno := l.Append(test.r, 0, test.hold)
			wantErrno(t, "Append", errno, test.wanted)
			if n != 0 {
				t.Errorf("%d beside an error", n)
			}
			want(t, l, x, state{last: test.last, left: test.room, room: test.room})
		})
	}
}

// Errors change nothing: behind them all goes on as if they hadn't been, the
// floor that was asked for with them among it.
func TestAppendErrorsLeaveTheClock(t *testing.T) {
	x := tape.New(3 * small)
	l := opened(t, x, 0)
	fail := func() {
		t.Helper()
		for _, floor := range []uint64{0, 100, topLSN - 1, topLSN, maxLSN, math.MaxUint64} {
			for _, hold := range []int{-maxLog - 1, -1, 0, 3 * small, maxLog, maxLog + 1} {
				if _, errno := l.Append(api.Record{}, floor, hold); errno == api.OK {
					t.Error("Append of a record that isn't right: OK")
				}
				if _, errno := l.Append(commit(1), floor, 3*small+max(hold, 0)); errno == api.OK {
					t.Error("Append without room: OK")
				}
			}
		}
	}
	for i := range 3 {
		fail()
		n, errno := l.Append(commit(i+1), 0, 0)
		wantNumber(t, "Append", n, errno, uint64(i+1))
	}
	fail()
	want(t, l, x, commits(t, 3*small, 0, 0, 0, 3))
	wantErrno(t, "Write", l.Write(), api.OK)
	want(t, l, x, commits(t, 3*small, 0, 0, 3, 0))
}

// What is held back never goes below 0, and what a hold took too much isn't
// owed.
func TestHeldBackIsNeverBelowNothing(t *testing.T) {
	x := tape.New(1000)
	l := opened(t, x, 0)
	used := 0
	for _, step := range []struct{ hold, held int }{
		{-5, 0},
		{10, 10},
		{-4, 6},
		{-6, 0},
		{3, 3},
		{-4, 0},
		{7, 7},
		{-maxLog, 0},
		{-1, 0},
		{600, 600},
		{0, 600},
		{-599, 1},
		{-1, 0},
	} {
		if _, errno := l.Append(commit(1), 0, step.hold); errno != api.OK {
			t.Fatalf("Append with the hold %d: %d", step.hold, errno)
		}
		used += small
		if l.Held() != step.held || l.Left() != 1000-used-step.held {
			t.Errorf("behind the hold %d: Held %d, Left %d", step.hold, l.Held(), l.Left())
		}
	}
}

// Room for what a hold gives back may be had by the same record.
func TestAppendWithTheRoomThatItGivesBack(t *testing.T) {
	x := tape.New(2*small + 10)
	l := opened(t, x, 0)
	l.Append(commit(1), 0, small+10)
	if l.Left() != 0 {
		t.Fatalf("Left: %d", l.Left())
	}
	for _, hold := range []int{0, -1, -small + 1} {
		if n, errno := l.Append(commit(2), 0, hold); n != 0 || errno != api.ErrFull {
			t.Errorf("Append with the hold %d: %d, %d", hold, n, errno)
		}
	}
	n, errno := l.Append(commit(2), 0, -small)
	wantNumber(t, "Append", n, errno, 2)
	if l.Held() != 10 || l.Left() != 0 {
		t.Errorf("Held %d, Left %d", l.Held(), l.Left())
	}
}

// P9.3: See.

func TestSee(t *testing.T) {
	l, x := laid(t, 1000, 1, 1, 1)
	wanted := told(t, l, x)
	for _, step := range []struct{ see, last uint64 }{
		{0, 3},
		{2, 3},
		{3, 3},
		{4, 4},
		{100, 100},
		{50, 100},
		{topLSN, topLSN},
		{maxLSN, maxLSN},
		{5, maxLSN},
		{math.MaxUint64, maxLSN},
	} {
		l.See(step.see)
		wanted.last = step.last
		want(t, l, x, wanted)
	}
}

// P9.3: Write.

func TestWriteWithNothingWaiting(t *testing.T) {
	for fast := range 3 {
		for onTape := range 3 {
			l, x := laid(t, 1000, fast, onTape, 0)
			for range 2 {
				wantErrno(t, "Write", l.Write(), api.OK)
				want(t, l, x, commits(t, 1000, 0, fast, onTape, 0))
			}
		}
	}
}

func TestWrite(t *testing.T) {
	for fast := range 3 {
		for onTape := range 3 {
			for waiting := range 4 {
				l, x := laid(t, 1000, fast, onTape, waiting)
				wantErrno(t, "Write", l.Write(), api.OK)
				want(t, l, x, commits(t, 1000, 0, fast, onTape+waiting, 0))
				// What was laid onto the tape is laid there once.
				wantErrno(t, "Write", l.Write(), api.OK)
				want(t, l, x, commits(t, 1000, 0, fast, onTape+waiting, 0))
			}
		}
	}
}

func TestWriteOfAllKinds(t *testing.T) {
	x := tape.New(1000)
	l := opened(t, x, 0)
	for _, r := range several() {
		n, errno := l.Append(numbered(r, 0), r.LSN-1, 0)
		wantNumber(t, "Append", n, errno, r.LSN)
	}
	wantErrno(t, "Write", l.Write(), api.OK)
	b := framed(t, several()...)
	want(t, l, x, state{records: text(several()), last: 1000, pending: 2, left: 1000 - len(b), tape: string(b), room: 1000})
	wantErrno(t, "Sync", l.Sync(), api.OK)
	want(t, l, x, whole(t, 1000, 0, several()))
	want(t, opened(t, x, 0), x, whole(t, 1000, 0, several()))
}

// Another hand has laid bytes onto the tape, so that there is no room any more:
// not even the first of the frames is laid there, though it would fit alone.
func TestWriteWithoutRoom(t *testing.T) {
	const room = 5 * small
	for _, free := range []int{0, 1, small, small + 1, 2*small - 1} {
		l, x := laid(t, room, 1, 1, 2)
		other := bytes.Repeat([]byte{7}, 3*small-free)
		wantErrno(t, "Append of another hand", x.Append(other), api.OK)
		wanted := commits(t, room, 0, 1, 1, 2)
		wanted.tape += string(other)
		// The tape's bytes are used, whoever laid them there.
		wanted.left -= len(other)
		want(t, l, x, wanted)
		for range 2 {
			wantErrno(t, "Write without room", l.Write(), api.ErrFull)
			want(t, l, x, wanted)
		}
		if n, errno := l.Append(commit(5), 0, 0); n != 0 || errno != api.ErrFull {
			t.Errorf("Append without room: %d, %d", n, errno)
		}
		want(t, l, x, wanted)
		// They waited all the while, and are laid there when there is room.
		wantErrno(t, "Chop", x.Chop(2*small), api.OK)
		want(t, l, x, commits(t, room, 0, 1, 1, 2))
		n, errno := l.Append(commit(5), 0, 0)
		wantNumber(t, "Append", n, errno, 5)
		wantErrno(t, "Write", l.Write(), api.OK)
		want(t, l, x, commits(t, room, 0, 1, 4, 0))
	}
}

func TestWriteWithJustEnoughRoom(t *testing.T) {
	l, x := laid(t, 4*small, 1, 1, 2)
	wantErrno(t, "Write", l.Write(), api.OK)
	want(t, l, x, commits(t, 4*small, 0, 1, 3, 0))
}

// P9.3: Sync.

func TestSync(t *testing.T) {
	for fast := range 3 {
		for onTape := range 3 {
			for waiting := range 3 {
				l, x := laid(t, 1000, fast, onTape, waiting)
				for range 2 {
					wantErrno(t, "Sync", l.Sync(), api.OK)
					want(t, l, x, commits(t, 1000, 0, fast+onTape, 0, waiting))
				}
				wantErrno(t, "Write", l.Write(), api.OK)
				want(t, l, x, commits(t, 1000, 0, fast+onTape, waiting, 0))
				wantErrno(t, "Sync", l.Sync(), api.OK)
				want(t, l, x, commits(t, 1000, 0, fast+onTape+waiting, 0, 0))
			}
		}
	}
}

// P9.3: Trim.

func TestTrim(t *testing.T) {
	for fast := range 4 {
		for onTape := range 3 {
			for waiting := range 3 {
				all := fast + onTape + waiting
				for _, n := range []uint64{0, 1, 2, 3, 4, 5, 6, 7, 8, 9, 100, maxLSN, math.MaxUint64} {
					l, x := laid(t, 1000, fast, onTape, waiting)
					gone := 0
					for gone < fast && uint64(gone+1) < n {
						gone++
					}
					got, errno := l.Trim(n)
					if got != gone || errno != api.OK {
						t.Errorf("Trim(%d) of %d, %d, %d: %d, %d", n, fast, onTape, waiting, got, errno)
					}
					wanted := commits(t, 1000, gone, fast-gone, onTape, waiting)
					want(t, l, x, wanted)
					for i := range all + 2 {
						if _, ok := l.Get(uint64(i)); ok != (gone < i && i <= all) {
							t.Errorf("Get(%d) behind Trim(%d): %t", i, n, ok)
						}
					}
					if got, errno := l.Trim(n); got != 0 || errno != api.OK {
						t.Errorf("Trim(%d) once more: %d, %d", n, got, errno)
					}
					want(t, l, x, wanted)
					wantErrno(t, "Write", l.Write(), api.OK)
					wantErrno(t, "Sync", l.Sync(), api.OK)
					want(t, l, x, commits(t, 1000, gone, all-gone, 0, 0))
				}
			}
		}
	}
}

// Numbers need not follow each other, and frames not have one length.
func TestTrimOfAllKinds(t *testing.T) {
	b := framed(t, several()...)
	for _, n := range []uint64{0, 1, 2, 3, 4, 7, 8, 9, 10, 19, 20, 21, 22, 999, 1000, 1001, maxLSN} {
		x := onto(t, 1000, b, 0)
		l := opened(t, x, 0)
		gone := 0
		for _, r := range several() {
			if r.LSN < n {
				gone++
			}
		}
		if got, errno := l.Trim(n); got != gone || errno != api.OK {
			t.Errorf("Trim(%d): %d, %d, not %d", n, got, errno, gone)
		}
		wanted := whole(t, 1000, 0, several()[gone:])
		wanted.last, wanted.durable = 1000, 1000
		wanted.start = uint64(len(b) - len(wanted.tape))
		want(t, l, x, wanted)
	}
}

func TestTrimOfNothing(t *testing.T) {
	for _, base := range []uint64{0, 5, maxLSN} {
		x := tape.New(100)
		l := opened(t, x, base)
		for _, n := range []uint64{0, 1, 5, maxLSN, math.MaxUint64} {
			if got, errno := l.Trim(n); got != 0 || errno != api.OK {
				t.Errorf("Trim(%d): %d, %d", n, got, errno)
			}
			want(t, l, x, state{last: base, left: 100, room: 100})
		}
	}
}

// A trim frees room, though nothing of what is held back.
func TestTrimFreesRoom(t *testing.T) {
	x := tape.New(3 * small)
	l := opened(t, x, 0)
	l.Append(commit(1), 0, 5)
	l.Append(commit(2), 0, 0)
	l.Write()
	l.Sync()
	if _, errno := l.Append(commit(3), 0, 0); errno != api.ErrFull {
		t.Errorf("Append to a full log: %d", errno)
	}
	if n, errno := l.Trim(2); n != 1 || errno != api.OK || l.Held() != 5 || l.Left() != 2*small-5 {
		t.Errorf("Trim: %d, %d, Held %d, Left %d", n, errno, l.Held(), l.Left())
	}
	n, errno := l.Append(commit(3), 0, 0)
	wantNumber(t, "Append behind a trim", n, errno, 3)
}

// Another hand has taken bytes away that stood fast: what can't be cut off stays.
func TestTrimOfWhatTheTapeHasLost(t *testing.T) {
	l, x := laid(t, 1000, 3, 0, 1)
	wantErrno(t, "Chop", x.Chop(2*small-1), api.OK)
	before := told(t, l, x)
	if n, errno := l.Trim(3); n != 0 || errno != api.ErrArg {
		t.Errorf("Trim: %d, %d", n, errno)
	}
	want(t, l, x, before)
}

// P9.4: Records, Get, Last, Durable, Pending, Held, Left.

func TestGet(t *testing.T) {
	b := framed(t, several()...)
	x := onto(t, 2000, b, 0)
	l := opened(t, x, 0)
	records := several()
	for i, r := range kinds() {
		floor := uint64(2000 + 10*i)
		n, errno := l.Append(r, floor, 0)
		wantNumber(t, "Append", n, errno, floor+1)
		records = append(records, numbered(r, n))
		if i == 3 {
			l.Write()
		}
	}
	byNumber := map[uint64]api.Record{}
	for _, r := range records {
		byNumber[r.LSN] = r
	}
	if got := l.Records(); text(got) != text(records) {
		t.Errorf("Records: %v", got)
	}
	numbers := []uint64{topLSN, maxLSN, maxLSN + 1, math.MaxUint64}
	for n := range uint64(2200) {
		numbers = append(numbers, n)
	}
	for _, n := range numbers {
		wanted, there := byNumber[n]
		got, ok := l.Get(n)
		if ok != there || !record.Same(got, wanted) {
			t.Errorf("Get(%d): %v, %t, not %v, %t", n, got, ok, wanted, there)
		}
	}
}

func TestGetOfNone(t *testing.T) {
	x := tape.New(100)
	l := opened(t, x, 3)
	for _, n := range []uint64{0, 1, 3, 4, maxLSN, math.MaxUint64} {
		if r, ok := l.Get(n); ok || !record.Same(r, api.Record{}) {
			t.Errorf("Get(%d) of an empty log: %v, %t", n, r, ok)
		}
	}
	if got := l.Records(); len(got) != 0 {
		t.Errorf("Records of an empty log: %v", got)
	}
}

// Durable tells what stood fast since Open, so it stays behind a trim of all.
func TestDurableBehindATrimOfAll(t *testing.T) {
	l, x := laid(t, 1000, 3, 0, 0)
	if n, errno := l.Trim(maxLSN); n != 3 || errno != api.OK {
		t.Errorf("Trim: %d, %d", n, errno)
	}
	want(t, l, x, commits(t, 1000, 3, 0, 0, 0))
	wantErrno(t, "Write", l.Write(), api.OK)
	wantErrno(t, "Sync", l.Sync(), api.OK)
	want(t, l, x, commits(t, 1000, 3, 0, 0, 0))
	n, errno := l.Append(commit(4), 0, 0)
	wantNumber(t, "Append", n, errno, 4)
	wantErrno(t, "Sync", l.Sync(), api.OK)
	want(t, l, x, commits(t, 1000, 3, 0, 0, 1))
	wantErrno(t, "Write", l.Write(), api.OK)
	want(t, l, x, commits(t, 1000, 3, 0, 1, 0))
	wantErrno(t, "Sync", l.Sync(), api.OK)
	want(t, l, x, commits(t, 1000, 3, 1, 0, 0))

	// A log that is opened on a tape of which all was trimmed has nothing that
	// stood fast since then.
	l.Trim(maxLSN)
	want(t, opened(t, x, 2), x, state{last: 2, left: 1000, start: 4 * small, room: 1000})
}

// Durable is a record's number, never the clock's.
func TestDurableIsNotWhatTheClockHasSeen(t *testing.T) {
	x := tape.New(100)
	l := opened(t, x, 50)
	l.See(70)
	l.Sync()
	if l.Durable() != 0 || l.Last() != 70 {
		t.Errorf("Durable %d, Last %d", l.Durable(), l.Last())
	}
	l.Append(commit(1), 0, 0)
	l.Write()
	l.See(90)
	l.Sync()
	if l.Durable() != 71 || l.Last() != 90 || l.Pending() != 0 {
		t.Errorf("Durable %d, Last %d, Pending %d", l.Durable(), l.Last(), l.Pending())
	}
}

func TestPending(t *testing.T) {
	for fast := range 3 {
		for onTape := range 3 {
			for waiting := range 3 {
				l, _ := laid(t, 1000, fast, onTape, waiting)
				wanted := uint64(0)
				if onTape+waiting > 0 {
					wanted = uint64(fast + 1)
				}
				if got := l.Pending(); got != wanted {
					t.Errorf("Pending of %d, %d, %d: %d", fast, onTape, waiting, got)
				}
				l.Trim(maxLSN)
				if got := l.Pending(); got != wanted {
					t.Errorf("Pending of %d, %d, %d behind a trim: %d", fast, onTape, waiting, got)
				}
			}
		}
	}
}

func TestLeftOfTheGreatestTape(t *testing.T) {
	x := tape.New(math.MaxInt)
	l := opened(t, x, 0)
	count := 0
	for {
		n, errno := l.Append(commit(1), 0, 0)
		if errno == api.ErrFull {
			break
		}
		count++
		if n != uint64(count) || errno != api.OK || l.Left() != maxLog-count*small {
			t.Fatalf("Append: %d, %d, Left %d", n, errno, l.Left())
		}
		if count%100 == 0 {
			wantErrno(t, "Write", l.Write(), api.OK)
		}
	}
	if count != maxLog/small || l.Left() >= small || l.Left() < 0 {
		t.Errorf("%d records, Left %d", count, l.Left())
	}
	wantErrno(t, "Write", l.Write(), api.OK)
	wantErrno(t, "Sync", l.Sync(), api.OK)
	if got := len(opened(t, x, 0).Records()); got != count {
		t.Errorf("%d records of %d behind Open", got, count)
	}
}

// P9.5: what is held back can be had.

func TestWhatIsHeldBackCanBeHad(t *testing.T) {
	rnd := rand.New(rand.NewSource(9))
	for range 400 {
		x := tape.New(rnd.Intn(2000))
		l := opened(t, x, 8)
		fill(l, rnd)
		have(t, l, rnd)
	}
}

// fill appends with holds, and lays some of it onto the tape, till much is used.
func fill(l *Log, rnd *rand.Rand) {
	for range 40 {
		l.Append(kinds()[rnd.Intn(len(kinds()))], 0, rnd.Intn(160)-20)
		switch rnd.Intn(6) {
		case 0:
			l.Write()
		case 1:
			l.Sync()
		case 2:
			l.Trim(l.Last() - 5)
		}
	}
	// All that is left is held back, but for what a record takes by itself.
	if left := l.Left() - small; left >= 0 {
		l.Append(commit(1), 0, left)
	}
}

// have takes what is held back, record by record, while one is short enough.
func have(t *testing.T, l *Log, rnd *rand.Rand) {
	t.Helper()
	for l.Held() >= small {
		r := kinds()[rnd.Intn(len(kinds()))]
		size := frame.Room(numbered(r, maxLSN))
		if size > l.Held() {
			continue
		}
		held, left, last := l.Held(), l.Left(), l.Last()
		n, errno := l.Append(r, 0, -size)
		wantNumber(t, "Append of what is held back", n, errno, last+1)
		if l.Held() != held-size || l.Left() != left {
			t.Fatalf("Held %d, Left %d, behind %d, %d and a frame of %d bytes", l.Held(), l.Left(), held, left, size)
		}
		if rnd.Intn(3) == 0 {
			wantErrno(t, "Write", l.Write(), api.OK)
		}
	}
}

// The spare numbers are there for it when no other record has a number.
func TestWhatIsHeldBackCanBeHadWithSpareNumbers(t *testing.T) {
	x := tape.New(4 * small)
	l := opened(t, x, topLSN-1)
	n, errno := l.Append(commit(1), 0, 3*small)
	wantNumber(t, "Append", n, errno, topLSN)
	if n, errno := l.Append(commit(1), 0, 0); n != 0 || errno != api.ErrFull {
		t.Errorf("Append with no number left: %d, %d", n, errno)
	}
	for i := range 2 {
		n, errno := l.Append(commit(1), 0, -small)
		wantNumber(t, "Append of what is held back", n, errno, topLSN+1+uint64(i))
	}
	l.See(maxLSN)
	if n, errno := l.Append(commit(1), 0, -small); n != 0 || errno != api.ErrFull || l.Held() != small {
		t.Errorf("Append with no spare number left: %d, %d, Held %d", n, errno, l.Held())
	}
}

// P9.6: behind a crash of the tape.

func TestOpenBehindACrash(t *testing.T) {
	for fast := range 3 {
		for onTape := range 4 {
			for waiting := range 2 {
				for keep := -1; keep <= small*onTape+1; keep++ {
					l, x := laid(t, 1000, fast, onTape, waiting)
					x.Crash(keep)
					kept := min(max(keep, 0)/small, onTape)
					m := opened(t, x, 0)
					want(t, m, x, commits(t, 1000, 0, fast+kept, 0, 0))
					wantBeginning(t, l, m)
				}
			}
		}
	}
}

// wantBeginning holds a log against the one that was opened behind a crash.
func wantBeginning(t *testing.T, ahead, behind *Log) {
	t.Helper()
	all, left := ahead.Records(), behind.Records()
	if len(left) > len(all) || text(left) != text(all[:min(len(left), len(all))]) {
		t.Errorf("behind the crash %s is no beginning of %s", text(left), text(all))
	}
	for _, r := range all {
		if _, ok := behind.Get(r.LSN); r.LSN <= ahead.Durable() && !ok {
			t.Errorf("the record %d stood fast, and is gone", r.LSN)
		}
	}
	if behind.Last() < ahead.Durable() && len(left) > 0 {
		t.Errorf("Last %d, though %d stood fast", behind.Last(), ahead.Durable())
	}
}

// The log goes on behind a crash, and crashes again.
func TestCrashesInARow(t *testing.T) {
	rnd := rand.New(rand.NewSource(96))
	for range 100 {
		x := tape.New(rnd.Intn(3000))
		l := opened(t, x, uint64(rnd.Intn(20)))
		for range 20 {
			for range rnd.Intn(12) {
				l.Append(kinds()[rnd.Intn(len(kinds()))], 8, rnd.Intn(60)-30)
				switch rnd.Intn(5) {
				case 0:
					l.Write()
				case 1:
					l.Sync()
				case 2:
					l.Trim(uint64(rnd.Intn(int(l.Last() + 2))))
				}
			}
			x.Crash(rnd.Intn(400) - 10)
			m := opened(t, x, 0)
			wantBeginning(t, l, m)
			if m.Pending() != 0 || m.Held() != 0 || m.Left() != x.Room()-x.Len() || x.Synced() != x.Len() {
				t.Fatalf("behind the crash: Pending %d, Held %d, Left %d", m.Pending(), m.Held(), m.Left())
			}
			l = m
		}
	}
}

// P9.7: nil, and the zero Log, of which the document says nothing: it has no tape.

func TestNilAndZero(t *testing.T) {
	for _, l := range []*Log{nil, {}, new(Log)} {
		for range 2 {
			for _, r := range []api.Record{{}, commit(1), numbered(commit(1), 1), check()} {
				for _, hold := range []int{math.MinInt, -1, 0, 1, math.MaxInt} {
					for _, floor := range []uint64{0, maxLSN, math.MaxUint64} {
						if n, errno := l.Append(r, floor, hold); n != 0 || errno != api.ErrArg {
							t.Errorf("Append: %d, %d", n, errno)
						}
					}
				}
			}
			l.See(5)
			l.See(math.MaxUint64)
			wantErrno(t, "Write", l.Write(), api.ErrArg)
			wantErrno(t, "Sync", l.Sync(), api.ErrArg)
			for _, n := range []uint64{0, 1, maxLSN, math.MaxUint64} {
				if n, errno := l.Trim(n); n != 0 || errno != api.ErrArg {
					t.Errorf("Trim: %d, %d", n, errno)
				}
				if r, ok := l.Get(n); ok || !record.Same(r, api.Record{}) {
					t.Errorf("Get(%d): %v, %t", n, r, ok)
				}
			}
			if got := l.Records(); len(got) != 0 {
				t.Errorf("Records: %v", got)
			}
			if l.Last() != 0 || l.Durable() != 0 || l.Pending() != 0 || l.Held() != 0 || l.Left() != 0 {
				t.Errorf("%d, %d, %d, %d, %d", l.Last(), l.Durable(), l.Pending(), l.Held(), l.Left())
			}
		}
	}
}

// R3: what goes in stays, what comes out shares nothing.

func TestAppendKeepsNothingOfItsArgument(t *testing.T) {
	x := tape.New(1000)
	l := opened(t, x, 8)
	txns, dirty := make([]api.TxnRow, 2, 4), make([]api.DirtyRow, 2, 4)
	copy(txns, check().Txns)
	copy(dirty, check().Dirty)
	r := check()
	r.Txns, r.Dirty = txns, dirty
	behind := api.TxnRow{Txn: 77, State: 9}
	txns[:4][2], txns[:4][3] = behind, behind
	far := api.DirtyRow{Page: 99}
	dirty[:4][2], dirty[:4][3] = far, far

	n, errno := l.Append(r, 0, 0)
	wantNumber(t, "Append", n, errno, 9)
	if !record.Same(r, check()) {
		t.Errorf("Append changed its argument: %v", r)
	}
	for i := 2; i < 4; i++ {
		if txns[:4][i] != behind || dirty[:4][i] != far {
			t.Errorf("Append wrote behind a list: %v, %v", txns[:4], dirty[:4])
		}
	}
	wanted := told(t, l, x)
	for i := range 4 {
		txns[:4][i], dirty[:4][i] = api.TxnRow{Txn: 1000}, api.DirtyRow{Page: 31}
	}
	want(t, l, x, wanted)
	wantErrno(t, "Write", l.Write(), api.OK)
	if got := string(x.Bytes()); got != string(framed(t, numbered(check(), 9))) {
		t.Errorf("on the tape: % x", got)
	}
}

// A record that is refused isn't changed either.
func TestAppendErrorsLeaveTheArgument(t *testing.T) {
	for _, r := range wrong() {
		x := tape.New(1000)
		l := opened(t, x, 0)
		before := text([]api.Record{r})
		l.Append(r, 0, 0)
		if text([]api.Record{r}) != before {
			t.Errorf("Append changed its argument: %v", r)
		}
	}
}

// spoil writes over all of a record's lists, as far as their memory goes.
func spoil(r api.Record) {
	for i := range r.Txns[:cap(r.Txns)] {
		r.Txns[:cap(r.Txns)][i] = api.TxnRow{Txn: -1, State: -1}
	}
	for i := range r.Dirty[:cap(r.Dirty)] {
		r.Dirty[:cap(r.Dirty)][i] = api.DirtyRow{Page: -1}
	}
}

func TestAnswersShareNothing(t *testing.T) {
	b := framed(t, several()...)
	x := onto(t, 1000, b, 0)
	l := opened(t, x, 0)
	// One check that was read of the tape, and two that wait.
	l.Append(check(), 0, 0)
	l.Append(check(), 0, 0)
	wanted := told(t, l, x)

	all := l.Records()
	kept := text(all[1:])
	spoil(all[0])
	if text(all[1:]) != kept {
		t.Error("records of one answer share memory")
	}
	for i := range all {
		rest := text(all[i+1:])
		spoil(all[i])
		all[i] = api.Record{Kind: -1}
		if text(all[i+1:]) != rest {
			t.Errorf("the record %d shares memory with one behind it", i)
		}
	}
	for i := range all[:cap(all)] {
		all[:cap(all)][i] = api.Record{Kind: -1}
	}
	want(t, l, x, wanted)

	for _, n := range []uint64{7, 1001, 1002} {
		r, ok := l.Get(n)
		if !ok || len(r.Txns) != 2 || len(r.Dirty) != 2 {
			t.Fatalf("Get(%d): %v, %t", n, r, ok)
		}
		spoil(r)
		want(t, l, x, wanted)
	}
	wantErrno(t, "Write", l.Write(), api.OK)
	m := opened(t, x, 0)
	if text(m.Records()) != wanted.records {
		t.Errorf("behind Open: %s", text(m.Records()))
	}
}

// The lists of one record share nothing with each other or behind a Trim.
func TestAnswersOutliveWhatTheyTell(t *testing.T) {
	b := framed(t, several()...)
	x := onto(t, 1000, b, 0)
	l := opened(t, x, 0)
	all := l.Records()
	one, _ := l.Get(7)
	l.Trim(maxLSN)
	l.Append(commit(1), 0, 0)
	l.Append(check(), 0, 0)
	l.Write()
	if text(all) != text(several()) || !record.Same(one, several()[2]) {
		t.Errorf("the answers changed: %s, %v", text(all), one)
	}
}

// R6: two logs know nothing of each other.

func TestLogsAreApart(t *testing.T) {
	l, x := laid(t, 1000, 1, 1, 1)
	other, y := laid(t, 1000, 1, 1, 1)
	wanted := told(t, l, x)
	other.See(99)
	other.Append(check(), 0, 50)
	other.Write()
	other.Sync()
	other.Trim(maxLSN)
	y.Crash(0)
	want(t, l, x, wanted)
}

// plain is a second log, told in the document's words: each record with its
// frame and where it is.
type plain struct {
	entries       []entry
	last, durable uint64
	held          int
	start         uint64
	room          int
}

const (
	waits = iota
	onTape
	standsFast
)

type entry struct {
	r     api.Record
	frame []byte
	place int
}

func (p *plain) used() int {
	n := 0
	for _, e := range p.entries {
		n += len(e.frame)
	}
	return n
}

func (p *plain) append(r api.Record, floor uint64, hold int) (uint64, api.Errno) {
	if r.LSN != 0 || hold < -maxLog || hold > maxLog {
		return 0, api.ErrArg
	}
	n := max(p.last, floor)
	if n >= maxLSN || hold >= 0 && n >= topLSN {
		return 0, api.ErrFull
	}
	r = numbered(r, n+1)
	if !record.Right(r) {
		return 0, api.ErrArg
	}
	b, _ := frame.Put(r)
	held := p.held + hold
	if held < 0 {
		held = 0
	}
	if p.used()+len(b)+held > p.room {
		return 0, api.ErrFull
	}
	p.held, p.last = held, n+1
	p.entries = append(p.entries, entry{r, b, waits})
	return n + 1, api.OK
}

func (p *plain) move(from, to int) {
	for i := range p.entries {
		if p.entries[i].place == from {
			p.entries[i].place = to
			if to == standsFast {
				p.durable = p.entries[i].r.LSN
			}
		}
	}
}

func (p *plain) trim(n uint64) int {
	gone := 0
	for len(p.entries) > 0 && p.entries[0].place == standsFast && p.entries[0].r.LSN < n {
		p.start += uint64(len(p.entries[0].frame))
		p.entries = p.entries[1:]
		gone++
	}
	return gone
}

// crash keeps so many bytes, and opens the log again.
func (p *plain) crash(keep int, base uint64) {
	var left []entry
	for _, e := range p.entries {
		if e.place == onTape {
			keep -= len(e.frame)
		}
		if e.place == waits || e.place == onTape && keep < 0 {
			break
		}
		left = append(left, entry{e.r, e.frame, standsFast})
	}
	p.entries, p.held, p.last, p.durable = left, 0, min(base, maxLSN), 0
	if len(left) > 0 {
		p.durable = left[len(left)-1].r.LSN
		p.last = max(p.last, p.durable)
	}
}

func (p *plain) told() state {
	s := state{last: p.last, durable: p.durable, held: p.held, left: p.room - p.used() - p.held, start: p.start, room: p.room}
	var records []api.Record
	for _, e := range p.entries {
		records = append(records, e.r)
		if e.place != waits {
			s.tape += string(e.frame)
		}
		if e.place == standsFast {
			s.synced += len(e.frame)
		} else if s.pending == 0 {
			s.pending = e.r.LSN
		}
	}
	s.records = text(records)
	return s
}

// pair is a log and its plain second one, told the same.
type pair struct {
	l *Log
	x *tape.Tape
	p *plain
}

func newPair(t *testing.T, room int, base uint64) *pair {
	t.Helper()
	x := tape.New(room)
	return &pair{opened(t, x, base), x, &plain{last: min(base, maxLSN), room: x.Room()}}
}

func (b *pair) append(t *testing.T, r api.Record, floor uint64, hold int) {
	t.Helper()
	n, errno := b.l.Append(r, floor, hold)
	wantN, wantE := b.p.append(r, floor, hold)
	if n != wantN || errno != wantE {
		t.Fatalf("Append(%v, %d, %d): %d, %d, not %d, %d", r, floor, hold, n, errno, wantN, wantE)
	}
}

func (b *pair) see(n uint64) {
	b.l.See(n)
	b.p.last = max(b.p.last, min(n, maxLSN))
}

func (b *pair) write(t *testing.T) {
	t.Helper()
	wantErrno(t, "Write", b.l.Write(), api.OK)
	b.p.move(waits, onTape)
}

func (b *pair) sync(t *testing.T) {
	t.Helper()
	wantErrno(t, "Sync", b.l.Sync(), api.OK)
	b.p.move(onTape, standsFast)
}

func (b *pair) trim(t *testing.T, n uint64) {
	t.Helper()
	got, errno := b.l.Trim(n)
	if wanted := b.p.trim(n); got != wanted || errno != api.OK {
		t.Fatalf("Trim(%d): %d, %d, not %d", n, got, errno, wanted)
	}
}

func (b *pair) crash(t *testing.T, keep int, base uint64) {
	t.Helper()
	b.x.Crash(keep)
	b.l = opened(t, b.x, base)
	b.p.crash(keep, base)
}

// TestAllShortWays goes every way of so many calls, and asks at its end.
func TestAllShortWays(t *testing.T) {
	calls := []func(*pair){
		func(b *pair) { b.append(t, commit(1), 0, 0) },
		func(b *pair) { b.append(t, insert(2, "ab"), 0, 40) },
		func(b *pair) { b.append(t, commit(3), 4, -30) },
		func(b *pair) { b.append(t, check(), 0, 0) },
		func(b *pair) { b.write(t) },
		func(b *pair) { b.sync(t) },
		func(b *pair) { b.trim(t, 3) },
		func(b *pair) { b.trim(t, maxLSN) },
		func(b *pair) { b.see(5) },
		func(b *pair) { b.crash(t, 30, 2) },
	}
	const long = 5
	ways := 1
	for range long {
		ways *= len(calls)
	}
	for way := range ways {
		b := newPair(t, 150, 0)
		for range long {
			calls[way%len(calls)](b)
			way /= len(calls)
		}
		if got, wanted := told(t, b.l, b.x), b.p.told(); got != wanted {
			t.Fatalf("the log is\n%s\nnot\n%s", short(got), short(wanted))
		}
	}
}

// TestLongWays takes calls as they come, the wrong ones too.
func TestLongWays(t *testing.T) {
	for seed := range int64(60) {
		rnd := rand.New(rand.NewSource(seed))
		base := []uint64{0, 8, 1000, topLSN - 20, maxLSN - 20, math.MaxUint64}[rnd.Intn(6)]
		b := newPair(t, []int{0, 26, 27, 100, 400, 3000, maxLog}[rnd.Intn(7)], base)
		for range 400 {
			step(t, b, rnd)
			want(t, b.l, b.x, b.p.told())
			if t.Failed() {
				t.Fatalf("in the way %d", seed)
			}
		}
	}
}

func step(t *testing.T, b *pair, rnd *rand.Rand) {
	t.Helper()
	near := b.p.last - min(b.p.last, uint64(rnd.Intn(12)))
	switch rnd.Intn(12) {
	case 0:
		b.write(t)
	case 1:
		b.sync(t)
	case 2:
		b.trim(t, near)
	case 3:
		b.see(near + uint64(rnd.Intn(20)))
	case 4:
		if rnd.Intn(4) == 0 {
			b.crash(t, rnd.Intn(300)-10, near)
		}
	case 5:
		b.append(t, wrong()[rnd.Intn(len(wrong()))], near, rnd.Intn(100)-50)
	case 6:
		holds := []int{-maxLog - 1, -maxLog, -maxLog + 1, maxLog - 1, maxLog, maxLog + 1, math.MinInt, math.MaxInt}
		b.append(t, kinds()[rnd.Intn(len(kinds()))], near, holds[rnd.Intn(len(holds))])
	case 7:
		b.append(t, several()[rnd.Intn(len(several()))], near, rnd.Intn(100)-50)
	case 8:
		floors := []uint64{topLSN - 1, topLSN, maxLSN - 1, maxLSN, maxLSN + 1, math.MaxUint64}
		if rnd.Intn(20) == 0 {
			b.append(t, commit(1), floors[rnd.Intn(len(floors))], rnd.Intn(100)-50)
		}
	default:
		b.append(t, kinds()[rnd.Intn(len(kinds()))], near+uint64(rnd.Intn(15)), rnd.Intn(120)-60)
	}
}
