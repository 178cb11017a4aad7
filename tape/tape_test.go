package tape

import (
	"bytes"
	"fmt"
	"math"
	"math/rand"
	"strings"
	"testing"

	"quayside/api"
)

const maxLog = api.MaxLog

// state is all that a tape tells of itself.
type state struct {
	text  string
	fast  int
	start uint64
	room  int
}

// told is what a tape tells of itself; Len must be how many bytes there are.
func told(t *testing.T, x *Tape) state {
	t.Helper()
	b := x.Bytes()
	if x.Len() != len(b) {
		t.Errorf("Len: %d, of %d bytes", x.Len(), len(b))
	}
	return state{string(b), x.Synced(), x.Start(), x.Room()}
}

// want asks twice, since asking must change nothing.
func want(t *testing.T, x *Tape, wanted state) {
	t.Helper()
	for range 2 {
		if got := told(t, x); got != wanted {
			t.Errorf("the tape is %s, not %s", short(got), short(wanted))
		}
	}
}

// short keeps a long tape from filling the screen.
func short(s state) string {
	return fmt.Sprintf("%.40q (%d bytes, %d stand fast, start %d, room %d)", s.text, len(s.text), s.fast, s.start, s.room)
}

func wantErrno(t *testing.T, call string, got, wanted api.Errno) {
	t.Helper()
	if got != wanted {
		t.Errorf("%s: %d, not %d", call, got, wanted)
	}
}

// laid is a tape on which some bytes stand fast, and others behind them don't.
func laid(t *testing.T, room int, fast, loose string) *Tape {
	t.Helper()
	x := New(room)
	wantErrno(t, "Append", x.Append([]byte(fast)), api.OK)
	wantErrno(t, "Sync", x.Sync(), api.OK)
	wantErrno(t, "Append", x.Append([]byte(loose)), api.OK)
	want(t, x, state{fast + loose, len(fast), 0, min(max(room, 0), maxLog)})
	return x
}

// many is so many bytes, of which those next to each other are never alike.
func many(n int) string {
	var b strings.Builder
	for i := range n {
		b.WriteByte(byte(i % 251))
	}
	return b.String()
}

// P8.1 and P8.2: the chapter's examples.

func TestExamples(t *testing.T) {
	x := New(5)
	wantErrno(t, "Append abc", x.Append([]byte("abc")), api.OK)
	want(t, x, state{"abc", 0, 0, 5})
	wantErrno(t, "Append def", x.Append([]byte("def")), api.ErrFull)
	want(t, x, state{"abc", 0, 0, 5})
	wantErrno(t, "Sync", x.Sync(), api.OK)
	want(t, x, state{"abc", 3, 0, 5})
	wantErrno(t, "Append d", x.Append([]byte("d")), api.OK)
	want(t, x, state{"abcd", 3, 0, 5})
	x.Crash(0)
	want(t, x, state{"abc", 3, 0, 5})
	wantErrno(t, "Cut(1)", x.Cut(1), api.OK)
	want(t, x, state{"bc", 2, 1, 5})
}

// P8.1: New.

func TestRooms(t *testing.T) {
	tests := []struct{ room, want int }{
		{math.MinInt, 0},
		{-maxLog, 0},
		{-3, 0},
		{-1, 0},
		{0, 0},
		{1, 1},
		{5, 5},
		{maxLog - 1, maxLog - 1},
		{maxLog, maxLog},
		{maxLog + 1, maxLog},
		{1 << 20, maxLog},
		{1<<32 + 5, maxLog},
		{math.MaxInt, maxLog},
	}
	for _, test := range tests {
		x := New(test.room)
		want(t, x, state{room: test.want})
		wantErrno(t, "Append of one more than the room", x.Append(make([]byte, test.want+1)), api.ErrFull)
		want(t, x, state{room: test.want})
		full := many(test.want)
		wantErrno(t, "Append of the room", x.Append([]byte(full)), api.OK)
		want(t, x, state{text: full, room: test.want})
		wantErrno(t, "Append of one byte to a full tape", x.Append([]byte{1}), api.ErrFull)
		wantErrno(t, "Append of nothing to a full tape", x.Append(nil), api.OK)
		want(t, x, state{text: full, room: test.want})
	}
}

// P8.1: Append.

func TestAppendOfNothing(t *testing.T) {
	for _, nothing := range [][]byte{nil, {}, make([]byte, 0, 8), []byte("abc")[:0]} {
		for _, x := range []*Tape{New(0), New(5), laid(t, 5, "ab", "c"), laid(t, 5, "ab", "cde"), laid(t, 5, "abcde", "")} {
			before := told(t, x)
			wantErrno(t, "Append of nothing", x.Append(nothing), api.OK)
			want(t, x, before)
		}
	}
}

func TestAppendUpToTheRoom(t *testing.T) {
	const room = 7
	for there := range room + 1 {
		for fast := range there + 1 {
			for more := range room + 3 {
				x := laid(t, room, many(there)[:fast], many(there)[fast:])
				b := bytes.Repeat([]byte{200}, more)
				if there+more > room {
					wantErrno(t, "Append beyond the room", x.Append(b), api.ErrFull)
					want(t, x, state{many(there), fast, 0, room})
					continue
				}
				wantErrno(t, "Append within the room", x.Append(b), api.OK)
				want(t, x, state{many(there) + string(b), fast, 0, room})
			}
		}
	}
}

func TestAppendToTheGreatestTape(t *testing.T) {
	x := laid(t, math.MaxInt, many(maxLog-3), "")
	before := told(t, x)
	for _, more := range []int{4, 5, maxLog, maxLog + 1, 1 << 20} {
		wantErrno(t, "Append beyond the room", x.Append(make([]byte, more)), api.ErrFull)
		want(t, x, before)
	}
	wantErrno(t, "Append of what fits", x.Append([]byte("xyz")), api.OK)
	want(t, x, state{many(maxLog-3) + "xyz", maxLog - 3, 0, maxLog})
}

func TestAppendByteByByte(t *testing.T) {
	x, text := New(maxLog), many(maxLog)
	for i := range text {
		if errno := x.Append([]byte{text[i]}); errno != api.OK || x.Len() != i+1 {
			t.Fatalf("Append of the byte %d: %d, Len %d", i, errno, x.Len())
		}
	}
	want(t, x, state{text, 0, 0, maxLog})
	wantErrno(t, "Append to a full tape", x.Append([]byte{0}), api.ErrFull)
	want(t, x, state{text, 0, 0, maxLog})
}

// P8.1: Sync.

func TestSync(t *testing.T) {
	x := New(9)
	wantErrno(t, "Sync of nothing", x.Sync(), api.OK)
	want(t, x, state{room: 9})
	for _, step := range []struct {
		more string
		fast int
	}{{"ab", 2}, {"", 2}, {"c", 3}, {"defghi", 9}} {
		x.Append([]byte(step.more))
		for range 2 {
			wantErrno(t, "Sync", x.Sync(), api.OK)
			want(t, x, state{"abcdefghi"[:step.fast], step.fast, 0, 9})
		}
	}
}

func TestAppendDoesNotStandFast(t *testing.T) {
	x := laid(t, 9, "ab", "c")
	x.Append([]byte("de"))
	want(t, x, state{"abcde", 2, 0, 9})
	x.Crash(0)
	want(t, x, state{"ab", 2, 0, 9})
}

// P8.1: Cut.

func TestCut(t *testing.T) {
	tests := []struct {
		fast, loose string
		n           int
		wanted      api.Errno
	}{
		{"", "", math.MinInt, api.ErrArg},
		{"", "", -1, api.ErrArg},
		{"", "", 0, api.OK},
		{"", "", 1, api.ErrArg},
		{"", "", math.MaxInt, api.ErrArg},
		{"", "abc", -1, api.ErrArg},
		{"", "abc", 0, api.OK},
		{"", "abc", 1, api.ErrArg},
		{"", "abc", 3, api.ErrArg},
		{"abc", "de", math.MinInt, api.ErrArg},
		{"abc", "de", -1, api.ErrArg},
		{"abc", "de", 0, api.OK},
		{"abc", "de", 1, api.OK},
		{"abc", "de", 2, api.OK},
		{"abc", "de", 3, api.OK},
		{"abc", "de", 4, api.ErrArg},
		{"abc", "de", 5, api.ErrArg},
		{"abc", "de", 6, api.ErrArg},
		{"abc", "de", math.MaxInt, api.ErrArg},
		{"abcde", "", -1, api.ErrArg},
		{"abcde", "", 0, api.OK},
		{"abcde", "", 4, api.OK},
		{"abcde", "", 5, api.OK},
		{"abcde", "", 6, api.ErrArg},
	}
	for _, test := range tests {
		x := laid(t, 8, test.fast, test.loose)
		wantErrno(t, "Cut", x.Cut(test.n), test.wanted)
		n := test.n
		if test.wanted != api.OK {
			n = 0
		}
		left := state{(test.fast + test.loose)[n:], len(test.fast) - n, uint64(n), 8}
		want(t, x, left)
		// A cut stands fast at once, and lets nothing else stand fast.
		x.Crash(0)
		want(t, x, state{test.fast[n:], len(test.fast) - n, uint64(n), 8})
	}
}

func TestStartBehindSeveralCuts(t *testing.T) {
	x := laid(t, 8, "abcdef", "gh")
	for _, step := range []struct {
		do     func() api.Errno
		errno  api.Errno
		wanted state
	}{
		{func() api.Errno { return x.Cut(2) }, api.OK, state{"cdefgh", 4, 2, 8}},
		{func() api.Errno { return x.Cut(0) }, api.OK, state{"cdefgh", 4, 2, 8}},
		{func() api.Errno { return x.Cut(5) }, api.ErrArg, state{"cdefgh", 4, 2, 8}},
		{func() api.Errno { return x.Cut(1) }, api.OK, state{"defgh", 3, 3, 8}},
		{func() api.Errno { return x.Append([]byte("ijk")) }, api.OK, state{"defghijk", 3, 3, 8}},
		{func() api.Errno { return x.Append([]byte("l")) }, api.ErrFull, state{"defghijk", 3, 3, 8}},
		{func() api.Errno { return x.Chop(7) }, api.OK, state{"defghij", 3, 3, 8}},
		{func() api.Errno { return x.Chop(8) }, api.ErrArg, state{"defghij", 3, 3, 8}},
		{func() api.Errno { x.Crash(2); return api.OK }, api.OK, state{"defgh", 5, 3, 8}},
		{func() api.Errno { return x.Cut(4) }, api.OK, state{"h", 1, 7, 8}},
		{func() api.Errno { return x.Sync() }, api.OK, state{"h", 1, 7, 8}},
		{func() api.Errno { return x.Chop(0) }, api.OK, state{"", 0, 7, 8}},
		{func() api.Errno { return x.Cut(1) }, api.ErrArg, state{"", 0, 7, 8}},
		{func() api.Errno { x.Crash(9); return api.OK }, api.OK, state{"", 0, 7, 8}},
		{func() api.Errno { return x.Append([]byte("m")) }, api.OK, state{"m", 0, 7, 8}},
		{func() api.Errno { return x.Cut(1) }, api.ErrArg, state{"m", 0, 7, 8}},
		{func() api.Errno { return x.Sync() }, api.OK, state{"m", 1, 7, 8}},
		{func() api.Errno { return x.Cut(1) }, api.OK, state{"", 0, 8, 8}},
	} {
		wantErrno(t, "a step", step.do(), step.errno)
		want(t, x, step.wanted)
	}
}

func TestStartGoesBeyondTheRoom(t *testing.T) {
	x, text := New(maxLog), many(maxLog)
	for i := range 5 {
		wantErrno(t, "Append of the room", x.Append([]byte(text)), api.OK)
		wantErrno(t, "Sync", x.Sync(), api.OK)
		wantErrno(t, "Cut of all", x.Cut(maxLog), api.OK)
		want(t, x, state{start: uint64(i+1) * maxLog, room: maxLog})
	}
}

// P8.1: Chop.

func TestChop(t *testing.T) {
	tests := []struct {
		fast, loose string
		n           int
		wanted      api.Errno
		left        string
		standing    int
	}{
		{"", "", math.MinInt, api.ErrArg, "", 0},
		{"", "", -1, api.ErrArg, "", 0},
		{"", "", 0, api.OK, "", 0},
		{"", "", 1, api.ErrArg, "", 0},
		{"", "", math.MaxInt, api.ErrArg, "", 0},
		{"", "abc", -1, api.ErrArg, "abc", 0},
		{"", "abc", 0, api.OK, "", 0},
		{"", "abc", 2, api.OK, "ab", 0},
		{"", "abc", 3, api.OK, "abc", 0},
		{"", "abc", 4, api.ErrArg, "abc", 0},
		{"abc", "de", math.MinInt, api.ErrArg, "abcde", 3},
		{"abc", "de", -1, api.ErrArg, "abcde", 3},
		{"abc", "de", 0, api.OK, "", 0},
		{"abc", "de", 1, api.OK, "a", 1},
		{"abc", "de", 2, api.OK, "ab", 2},
		{"abc", "de", 3, api.OK, "abc", 3},
		{"abc", "de", 4, api.OK, "abcd", 3},
		{"abc", "de", 5, api.OK, "abcde", 3},
		{"abc", "de", 6, api.ErrArg, "abcde", 3},
		{"abc", "de", 8, api.ErrArg, "abcde", 3},
		{"abc", "de", math.MaxInt, api.ErrArg, "abcde", 3},
		{"abcde", "", 0, api.OK, "", 0},
		{"abcde", "", 4, api.OK, "abcd", 4},
		{"abcde", "", 5, api.OK, "abcde", 5},
		{"abcde", "", 6, api.ErrArg, "abcde", 5},
	}
	for _, test := range tests {
		x := laid(t, 8, test.fast, test.loose)
		wantErrno(t, "Chop", x.Chop(test.n), test.wanted)
		want(t, x, state{test.left, test.standing, 0, 8})
		// What was chopped off is gone for good; what is left behind what stands
		// fast may still be lost.
		x.Crash(0)
		want(t, x, state{test.left[:test.standing], test.standing, 0, 8})
	}
}

func TestChopLetsNothingElseStandFast(t *testing.T) {
	x := laid(t, 8, "abcd", "ef")
	wantErrno(t, "Chop(2)", x.Chop(2), api.OK)
	wantErrno(t, "Append", x.Append([]byte("xyz")), api.OK)
	want(t, x, state{"abxyz", 2, 0, 8})
	wantErrno(t, "Cut(3)", x.Cut(3), api.ErrArg)
	x.Crash(1)
	want(t, x, state{"abx", 3, 0, 8})
}

// P8.1 and P8.2: room that comes back.

func TestRoomComesBack(t *testing.T) {
	for _, free := range []struct {
		do   func(x *Tape) api.Errno
		left string
		gone uint64
	}{
		{func(x *Tape) api.Errno { return x.Cut(3) }, "def", 3},
		{func(x *Tape) api.Errno { return x.Chop(3) }, "abc", 0},
		{func(x *Tape) api.Errno { return x.Chop(5) }, "abcde", 0},
		{func(x *Tape) api.Errno { return x.Chop(0) }, "", 0},
		{func(x *Tape) api.Errno { x.Crash(0); return api.OK }, "abcd", 0},
		{func(x *Tape) api.Errno { x.Crash(1); return api.OK }, "abcde", 0},
	} {
		x := laid(t, 6, "abcd", "ef")
		wantErrno(t, "Append to a full tape", x.Append([]byte("x")), api.ErrFull)
		wantErrno(t, "what frees", free.do(x), api.OK)
		more := strings.Repeat("x", 6-len(free.left))
		wantErrno(t, "Append of too much", x.Append([]byte(more+"y")), api.ErrFull)
		wantErrno(t, "Append of what was freed", x.Append([]byte(more)), api.OK)
		x.Sync()
		want(t, x, state{free.left + more, 6, free.gone, 6})
	}
}

// P8.2: Crash.

func TestCrash(t *testing.T) {
	const loose = "wxyz"
	for _, fast := range []string{"", "abc", "abcdefgh"} {
		for size := range len(loose) + 1 {
			for _, keep := range []int{math.MinInt, -maxLog, -4, -1, 0, 1, 2, 3, 4, 5, maxLog, math.MaxInt - 1, math.MaxInt} {
				x := laid(t, 12, fast, loose[:size])
				x.Crash(keep)
				kept := 0
				for kept < size && kept < keep {
					kept++
				}
				left := fast + loose[:kept]
				want(t, x, state{left, len(left), 0, 12})
				x.Crash(0)
				want(t, x, state{left, len(left), 0, 12})
				wantErrno(t, "Cut of all that is left", x.Cut(len(left)), api.OK)
				want(t, x, state{"", 0, uint64(len(left)), 12})
			}
		}
	}
}

func TestCrashOfTheGreatestTape(t *testing.T) {
	text := many(maxLog)
	x := laid(t, maxLog, text[:1], text[1:])
	x.Crash(maxLog - 2)
	want(t, x, state{text[:maxLog-1], maxLog - 1, 0, maxLog})
	x = laid(t, maxLog, text[:1], text[1:])
	x.Crash(maxLog - 1)
	want(t, x, state{text, maxLog, 0, maxLog})
}

// P8.3, and all promises held against a tape that is told the plainest way.

// spot is a byte, and whether it stands fast.
type spot struct {
	value byte
	fast  bool
}

// strip is a tape whose every byte knows for itself whether it stands fast.
type strip struct {
	spots []spot
	gone  uint64
	room  int
}

func (s *strip) standing() int {
	n := 0
	for _, each := range s.spots {
		if each.fast {
			n++
		}
	}
	return n
}

func (s *strip) tells() state {
	var b strings.Builder
	for _, each := range s.spots {
		b.WriteByte(each.value)
	}
	return state{b.String(), s.standing(), s.gone, s.room}
}

// step is a call of a tape.
type step struct {
	call string
	n    int
	b    string
}

// does is the step on a strip, and what it answers.
func (s *strip) does(p step) api.Errno {
	switch p.call {
	case "Append":
		if len(s.spots)+len(p.b) > s.room {
			return api.ErrFull
		}
		for _, value := range []byte(p.b) {
			s.spots = append(s.spots, spot{value: value})
		}
	case "Cut":
		if p.n < 0 || p.n > s.standing() {
			return api.ErrArg
		}
		for range p.n {
			s.spots = s.spots[1:]
			s.gone++
		}
	case "Chop":
		if p.n < 0 || p.n > len(s.spots) {
			return api.ErrArg
		}
		for len(s.spots) > p.n {
			s.spots = s.spots[:len(s.spots)-1]
		}
	case "Crash":
		var left []spot
		kept := 0
		for _, each := range s.spots {
			if each.fast {
				left = append(left, each)
			} else if kept < p.n {
				left = append(left, spot{each.value, true})
				kept++
			}
		}
		s.spots = left
	case "Sync":
		for i := range s.spots {
			s.spots[i].fast = true
		}
	}
	return api.OK
}

// done is the step on a tape, and what it answers.
func done(x *Tape, p step) api.Errno {
	switch p.call {
	case "Append":
		return x.Append([]byte(p.b))
	case "Cut":
		return x.Cut(p.n)
	case "Chop":
		return x.Chop(p.n)
	case "Crash":
		x.Crash(p.n)
	case "Sync":
		return x.Sync()
	}
	return api.OK
}

// wantStays asks P8.3 of one step: what stood fast still begins the tape,
// unless the step cut or chopped it.
func wantStays(t *testing.T, before, after state, p step, errno api.Errno) {
	t.Helper()
	stood := before.text[:before.fast]
	if errno == api.OK && p.call == "Cut" {
		stood = stood[p.n:]
	}
	if errno == api.OK && p.call == "Chop" {
		stood = stood[:min(p.n, len(stood))]
	}
	if after.fast < len(stood) || !strings.HasPrefix(after.text, stood) {
		t.Fatalf("%#v of %s: %s: what stood fast doesn't stay", p, short(before), short(after))
	}
}

// wantAlike does one step on both, and holds them against each other.
func wantAlike(t *testing.T, x *Tape, s *strip, p step) {
	t.Helper()
	before := told(t, x)
	errno, wanted := done(x, p), s.does(p)
	if errno != wanted {
		t.Fatalf("%#v of %s: %d, not %d", p, short(before), errno, wanted)
	}
	after := told(t, x)
	if after != s.tells() {
		t.Fatalf("%#v of %s: %s, not %s", p, short(before), short(after), short(s.tells()))
	}
	if errno != api.OK && after != before {
		t.Fatalf("%#v of %s: the error %d, and %s", p, short(before), errno, short(after))
	}
	wantStays(t, before, after, p, errno)
}

// All ways to do six steps of these on a small tape are gone through.
func TestAllShortWays(t *testing.T) {
	const steps, room = 6, 4
	choices := []step{
		{call: "Append", b: "1"}, {call: "Append", b: "234"}, {call: "Sync"},
		{call: "Cut", n: 1}, {call: "Cut", n: 3},
		{call: "Chop", n: 1}, {call: "Chop", n: 3},
		{call: "Crash", n: 0}, {call: "Crash", n: 2},
	}
	ways := 1
	for range steps {
		ways *= len(choices)
	}
	for way := range ways {
		x, s := New(room), &strip{room: room}
		for range steps {
			wantAlike(t, x, s, choices[way%len(choices)])
			way /= len(choices)
		}
	}
}

// anyStep is a step by which a tape of that room may be taken to its edges.
func anyStep(source *rand.Rand, room, at int) step {
	n := source.Intn(room+5) - 2
	switch source.Intn(12) {
	case 0, 1, 2, 3, 4, 5:
		b := make([]byte, source.Intn(room/3+2))
		for i := range b {
			b[i] = byte(at + i)
		}
		return step{call: "Append", b: string(b)}
	case 6, 7:
		return step{call: "Sync"}
	case 8, 9:
		return step{call: "Cut", n: n / 2}
	case 10:
		return step{call: "Chop", n: n}
	}
	return step{call: "Crash", n: n}
}

func TestLongWays(t *testing.T) {
	source := rand.New(rand.NewSource(8))
	for _, room := range []int{0, 1, 2, 7, 50, 300} {
		for range 20 {
			x, s := New(room), &strip{room: room}
			for i := range 500 {
				wantAlike(t, x, s, anyStep(source, room, i))
			}
		}
	}
}

// P8.3: without a chop or a crash, what is there is what was appended, behind
// what was cut; what a crash leaves is the beginning of that.
func TestWhatStandsFastIsTheBeginningOfWhatWasAppended(t *testing.T) {
	source := rand.New(rand.NewSource(83))
	for range 200 {
		x, appended := New(100), ""
		for i := range 100 {
			p := anyStep(source, 100, i)
			if p.call == "Chop" {
				continue
			}
			if done(x, p) == api.OK && p.call == "Append" {
				appended += p.b
			}
			if p.call == "Crash" {
				// What is lost was appended, but is no more a part of the tape.
				appended = appended[:int(x.Start())+x.Len()]
			}
			if got := told(t, x); got.text != appended[got.start:] {
				t.Fatalf("%s, not %q", short(got), appended[got.start:])
			}
		}
	}
}

func TestWhatStandsFastStaysWhateverCrashes(t *testing.T) {
	x := laid(t, 50, "abc", "")
	for i := range 20 {
		x.Append([]byte(strings.Repeat("-", i)))
		x.Crash(-i)
		want(t, x, state{"abc", 3, 0, 50})
	}
	wantErrno(t, "Append that is refused", x.Append(make([]byte, 48)), api.ErrFull)
	wantErrno(t, "Cut that is refused", x.Cut(4), api.ErrArg)
	wantErrno(t, "Chop that is refused", x.Chop(4), api.ErrArg)
	x.Crash(math.MaxInt)
	want(t, x, state{"abc", 3, 0, 50})
}

// P8.4: a nil Tape, and the zero Tape.

func TestANilTape(t *testing.T) {
	var x *Tape
	for _, n := range []int{math.MinInt, -1, 0, 1, maxLog, math.MaxInt} {
		for _, b := range [][]byte{nil, {}, []byte("abc"), make([]byte, maxLog+1)} {
			wantErrno(t, "Append of a nil Tape", x.Append(b), api.ErrArg)
		}
		wantErrno(t, "Sync of a nil Tape", x.Sync(), api.ErrArg)
		wantErrno(t, "Cut of a nil Tape", x.Cut(n), api.ErrArg)
		wantErrno(t, "Chop of a nil Tape", x.Chop(n), api.ErrArg)
		x.Crash(n)
		want(t, x, state{})
	}
}

func TestTheZeroTape(t *testing.T) {
	for _, x := range []*Tape{new(Tape), {}, New(0)} {
		want(t, x, state{})
		for _, n := range []int{math.MinInt, -1, 1, maxLog, math.MaxInt} {
			wantErrno(t, "Cut", x.Cut(n), api.ErrArg)
			wantErrno(t, "Chop", x.Chop(n), api.ErrArg)
			x.Crash(n)
			want(t, x, state{})
		}
		for _, b := range []string{"a", "abc", many(maxLog)} {
			wantErrno(t, "Append", x.Append([]byte(b)), api.ErrFull)
			want(t, x, state{})
		}
		wantErrno(t, "Append of nothing", x.Append(nil), api.OK)
		wantErrno(t, "Sync", x.Sync(), api.OK)
		wantErrno(t, "Cut(0)", x.Cut(0), api.OK)
		wantErrno(t, "Chop(0)", x.Chop(0), api.OK)
		x.Crash(0)
		want(t, x, state{})
	}
}

// R3: what goes in stays, and what comes out shares nothing.

func TestAppendLeavesItsBytesAndKeepsNone(t *testing.T) {
	for _, size := range []int{0, 1, 3, 8} {
		whole := []byte("abcdefgh")
		x := laid(t, 20, "12", "3")
		x.Append(whole[:size])
		x.Append([]byte("tail"))
		x.Cut(1)
		x.Crash(2)
		x.Chop(1)
		if string(whole) != "abcdefgh" {
			t.Fatalf("Append of the first %d bytes made %q of them all", size, whole)
		}
	}
	whole := []byte("abcdefgh")
	x := New(20)
	x.Append(whole[2:5])
	for i := range whole {
		whole[i] = '!'
	}
	want(t, x, state{"cde", 0, 0, 20})
	// The very memory of an earlier append is appended again, changed.
	x.Append(whole[2:5])
	want(t, x, state{"cde!!!", 0, 0, 20})
}

func TestAppendThatIsRefusedLeavesItsBytes(t *testing.T) {
	b := []byte("abcdefgh")
	wantErrno(t, "Append", laid(t, 4, "12", "").Append(b[:3]), api.ErrFull)
	wantErrno(t, "Append", (*Tape)(nil).Append(b[:3]), api.ErrArg)
	if string(b) != "abcdefgh" {
		t.Errorf("Append made %q of it", b)
	}
}

// scribble writes all of an answer's memory over, that behind its length too.
func scribble(b []byte) {
	b = b[:cap(b)]
	for i := range b {
		b[i] = '!'
	}
}

func TestBytesAreNewMemory(t *testing.T) {
	x := laid(t, 20, "abc", "de")
	first, second := x.Bytes(), x.Bytes()
	scribble(first)
	if string(second) != "abcde" {
		t.Errorf("two answers share memory: %q", second)
	}
	want(t, x, state{"abcde", 3, 0, 20})
	third := append(x.Bytes(), "xyz"...)
	x.Append([]byte("fgh"))
	want(t, x, state{"abcdefgh", 3, 0, 20})
	if string(third) != "abcdexyz" {
		t.Errorf("what stands behind an answer was written: %q", third)
	}
}

func TestBytesStayWhateverTheTapeIsToldThen(t *testing.T) {
	x := laid(t, 10, "abc", "de")
	b := x.Bytes()
	x.Cut(2)
	x.Append([]byte("xyz"))
	x.Chop(2)
	x.Append([]byte("1234567"))
	x.Crash(3)
	if string(b) != "abcde" {
		t.Errorf("an answer became %q", b)
	}
	scribble(b)
	want(t, x, state{"cd12", 4, 2, 10})
}

func TestATapesBytesAppendedToItself(t *testing.T) {
	x := laid(t, 10, "abc", "")
	wantErrno(t, "Append", x.Append(x.Bytes()), api.OK)
	want(t, x, state{"abcabc", 3, 0, 10})
	wantErrno(t, "Append", x.Append(x.Bytes()), api.ErrFull)
	want(t, x, state{"abcabc", 3, 0, 10})
}

// R5: bytes are kept as they are, whichever they are.

func TestEveryByteIsKept(t *testing.T) {
	all := make([]byte, 256)
	for i := range all {
		all[i] = byte(i)
	}
	x := laid(t, 300, string(all), "")
	x.Crash(0)
	want(t, x, state{string(all), 256, 0, 300})
}

// R6.

func TestTapesAreApart(t *testing.T) {
	first, second := New(10), New(10)
	if first == second {
		t.Fatal("New answers the same tape twice")
	}
	b := []byte("abc")
	first.Append(b)
	second.Append(b)
	first.Append([]byte("de"))
	first.Sync()
	first.Cut(2)
	want(t, second, state{"abc", 0, 0, 10})
	second.Append([]byte("xy"))
	second.Crash(4)
	want(t, second, state{"abcx", 4, 0, 10})
	want(t, first, state{"cde", 3, 2, 10})
}

func TestTheSameWayComesToTheSame(t *testing.T) {
	way := func(x *Tape) []state {
		source := rand.New(rand.NewSource(86))
		var all []state
		for i := range 300 {
			errno := done(x, anyStep(source, 40, i))
			all = append(all, told(t, x), state{fast: int(errno)})
		}
		return all
	}
	wanted := way(New(40))
	for range 3 {
		for i, got := range way(New(40)) {
			if got != wanted[i] {
				t.Fatalf("%s, not %s", short(got), short(wanted[i]))
			}
		}
	}
}
