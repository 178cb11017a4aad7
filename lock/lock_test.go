package lock

import (
	"encoding/binary"
	"fmt"
	"math"
	"math/rand"
	"slices"
	"testing"

	"quayside/api"
	"quayside/mode"
)

const (
	maxThings = api.MaxThings
	maxWho    = api.MaxWho

	is  = mode.IS
	ix  = mode.IX
	s   = mode.S
	six = mode.SIX
	x   = mode.X

	ok     = api.OK
	arg    = api.ErrArg
	dead   = api.ErrDead
	waits  = api.ErrWait
	wrong  = api.ErrState
	asking = "Request"
	free   = "Free"
	stop   = "Stop"
)

var modes = []mode.Mode{is, ix, s, six, x}

// call is a call that may change a table, and answer what came of it.
type call struct {
	name       string
	who, thing int
	m          mode.Mode
}

type answer struct {
	errno api.Errno
	in    []int
}

func do(table *Table, c call) answer {
	switch c.name {
	case free:
		return answer{in: table.Free(c.who)}
	case stop:
		return answer{in: table.Stop(c.who)}
	}
	return answer{errno: table.Request(c.who, c.thing, c.m)}
}

// second is a table as the chapter tells it: the locks that are had, by things
// and owners, and all who wait, by things and then as they stand in the rows.
type second struct {
	had, waiting []Hold
}

func (k second) clone() second {
	return second{slices.Clone(k.had), slices.Clone(k.waiting)}
}

// key is a text that two such tables have in common only if they are alike.
func (k second) key() string {
	var b []byte
	for _, list := range [][]Hold{k.had, k.waiting} {
		b = binary.AppendVarint(b, int64(len(list)))
		for _, h := range list {
			b = binary.AppendVarint(b, int64(h.Who))
			b = binary.AppendVarint(b, int64(h.Thing))
			b = binary.AppendVarint(b, int64(h.Mode))
		}
	}
	return string(b)
}

func (k *second) sort() {
	slices.SortFunc(k.had, func(a, b Hold) int {
		if a.Thing != b.Thing {
			return a.Thing - b.Thing
		}
		return a.Who - b.Who
	})
	slices.SortStableFunc(k.waiting, func(a, b Hold) int { return a.Thing - b.Thing })
}

// owners are all who have something or wait, rising.
func (k second) owners() []int {
	var all []int
	for _, h := range slices.Concat(k.had, k.waiting) {
		all = append(all, h.Who)
	}
	slices.Sort(all)
	return slices.Compact(all)
}

func (k second) mode(who, thing int) mode.Mode {
	for _, h := range k.had {
		if h.Who == who && h.Thing == thing {
			return h.Mode
		}
	}
	return 0
}

func (k second) wait(who int) (Hold, bool) {
	for _, h := range k.waiting {
		if h.Who == who {
			return h, true
		}
	}
	return Hold{}, false
}

func (k second) queue(thing int) []Hold {
	var row []Hold
	for _, h := range k.waiting {
		if h.Thing == thing {
			row = append(row, h)
		}
	}
	return row
}

func (k second) fits(want Hold) bool {
	for _, h := range k.had {
		if h.Thing == want.Thing && h.Who != want.Who && !mode.Fits(want.Mode, h.Mode) {
			return false
		}
	}
	return true
}

// mustGoBehind is the chapter's word, of two owners.
func (k second) mustGoBehind(one, other int) bool {
	w, there := k.wait(one)
	if !there || one == other {
		return false
	}
	if m := k.mode(other, w.Thing); m != 0 && !mode.Fits(m, w.Mode) {
		return true
	}
	row := k.queue(w.Thing)
	place := func(who int) int {
		return slices.IndexFunc(row, func(h Hold) bool { return h.Who == who })
	}
	return place(other) >= 0 && place(other) < place(one)
}

func (k second) behind(who int) []int {
	var all []int
	for _, other := range k.owners() {
		if k.mustGoBehind(who, other) {
			all = append(all, other)
		}
	}
	return all
}

// inRing goes on until nobody new is come to, going from all there are each
// time.
func (k second) inRing(who int) bool {
	come := k.behind(who)
	for {
		more := slices.Clone(come)
		for _, other := range come {
			more = append(more, k.behind(other)...)
		}
		slices.Sort(more)
		more = slices.Compact(more)
		if len(more) == len(come) {
			return slices.Contains(come, who)
		}
		come = more
	}
}

func (k *second) have(h Hold) {
	k.had = slices.DeleteFunc(k.had, func(o Hold) bool { return o.Who == h.Who && o.Thing == h.Thing })
	k.had = append(k.had, h)
	k.sort()
}

func (k *second) enter(want Hold) {
	var have, lack []Hold
	for _, h := range k.queue(want.Thing) {
		if k.mode(h.Who, h.Thing) != 0 {
			have = append(have, h)
		} else {
			lack = append(lack, h)
		}
	}
	row := slices.Concat(have, lack, []Hold{want})
	if k.mode(want.Who, want.Thing) != 0 {
		row = slices.Concat(have, []Hold{want}, lack)
	}
	k.waiting = slices.DeleteFunc(k.waiting, func(h Hold) bool { return h.Thing == want.Thing })
	k.waiting = append(k.waiting, row...)
	k.sort()
}

func (k *second) request(who, thing int, m mode.Mode) api.Errno {
	if who < 1 || who > maxWho || thing < 0 || thing > maxThings-1 || m < is || m > x {
		return arg
	}
	had := k.mode(who, thing)
	want := Hold{who, thing, m}
	if had != 0 {
		want.Mode = mode.Both(m, had)
	}
	if w, there := k.wait(who); there {
		if w.Thing == thing && w.Mode == want.Mode {
			return waits
		}
		return wrong
	}
	if had == want.Mode {
		return ok
	}
	if k.fits(want) && (had != 0 || len(k.queue(thing)) == 0) {
		k.have(want)
		return ok
	}
	before := k.clone()
	k.enter(want)
	if k.inRing(who) {
		*k = before
		return dead
	}
	return waits
}

func (k *second) letIn() []int {
	var in []int
	for thing := range maxThings {
		for _, h := range k.queue(thing) {
			if !k.fits(h) {
				break
			}
			k.have(h)
			k.waiting = slices.DeleteFunc(k.waiting, func(o Hold) bool { return o.Who == h.Who })
			in = append(in, h.Who)
		}
	}
	return in
}

func (k *second) do(c call) answer {
	byWho := func(h Hold) bool { return h.Who == c.who }
	switch c.name {
	case free:
		k.had = slices.DeleteFunc(k.had, byWho)
		k.waiting = slices.DeleteFunc(k.waiting, byWho)
	case stop:
		k.waiting = slices.DeleteFunc(k.waiting, byWho)
	default:
		return answer{errno: k.request(c.who, c.thing, c.m)}
	}
	if len(k.waiting) == 0 {
		return answer{}
	}
	return answer{in: k.letIn()}
}

// kept is all of a table, by what it tells.
func kept(table *Table) second {
	k := second{had: table.Held()}
	for thing := range maxThings {
		k.waiting = append(k.waiting, table.Queue(thing)...)
	}
	return k
}

// wantTold holds what a table tells of some owners and things against the
// second table.
func wantTold(t *testing.T, table *Table, k second, owners, things []int) {
	t.Helper()
	if got := table.Held(); !slices.Equal(got, k.had) {
		t.Errorf("Held: %v, not %v", got, k.had)
	}
	for _, thing := range things {
		if got, row := table.Queue(thing), k.queue(thing); !slices.Equal(got, row) {
			t.Errorf("Queue(%d): %v, not %v", thing, got, row)
		}
	}
	for _, who := range owners {
		got, there := table.Waits(who)
		if w, wanted := k.wait(who); got != w || there != wanted {
			t.Errorf("Waits(%d): %v, %t, not %v, %t", who, got, there, w, wanted)
		}
		if got, others := table.Behind(who), k.behind(who); !slices.Equal(got, others) {
			t.Errorf("Behind(%d): %v, not %v", who, got, others)
		}
		for _, thing := range things {
			if got, m := table.Holds(who, thing), k.mode(who, thing); got != m {
				t.Errorf("Holds(%d, %d): %d, not %d", who, thing, got, m)
			}
		}
	}
}

// wantRight wants P13.4 of all that a table tells of some owners and things.
func wantRight(t *testing.T, table *Table, owners, things []int) {
	t.Helper()
	held := table.Held()
	for i, a := range held {
		for _, b := range held[:i] {
			if a.Thing == b.Thing && !mode.Fits(a.Mode, b.Mode) {
				t.Errorf("%v and %v don't fit", a, b)
			}
		}
	}
	behind := map[int][]int{}
	for _, who := range owners {
		behind[who] = table.Behind(who)
		if _, there := table.Waits(who); there != (len(behind[who]) > 0) {
			t.Errorf("%d waits: %t, and has to go behind %v", who, there, behind[who])
		}
	}
	// Who has to go behind nobody that is left is taken away, until nobody is:
	// then all were taken, or some have to go behind themselves.
	left := slices.Clone(owners)
	for n := -1; n != len(left); {
		n = len(left)
		left = slices.DeleteFunc(left, func(who int) bool {
			return !slices.ContainsFunc(behind[who], func(other int) bool { return slices.Contains(left, other) })
		})
	}
	if len(left) > 0 {
		t.Errorf("a ring among %v", left)
	}
	for _, thing := range things {
		for _, h := range table.Queue(thing) {
			if w, there := table.Waits(h.Who); !there || w != h {
				t.Errorf("%v stands in a row, but %v, %t is waited for", h, w, there)
			}
		}
	}
}

func allThings() []int {
	var things []int
	for thing := range maxThings {
		things = append(things, thing)
	}
	return things
}

// want asks twice, since asking must change nothing.
func want(t *testing.T, table *Table, k second) {
	t.Helper()
	owners := append(k.owners(), 77777)
	for range 2 {
		wantTold(t, table, k, owners, allThings())
		wantRight(t, table, owners, allThings())
	}
}

func wantErrno(t *testing.T, name string, got, wanted api.Errno) {
	t.Helper()
	if got != wanted {
		t.Errorf("%s: %d, not %d", name, got, wanted)
	}
}

func wantList(t *testing.T, name string, got []int, wanted ...int) {
	t.Helper()
	if !slices.Equal(got, wanted) {
		t.Errorf("%s: %v, not %v", name, got, wanted)
	}
}

// wantStays wants an answer of a request, and that nothing is changed by it.
func wantStays(t *testing.T, table *Table, who, thing int, m mode.Mode, wanted api.Errno) {
	t.Helper()
	before := kept(table)
	wantErrno(t, fmt.Sprintf("Request(%d, %d, %d)", who, thing, m), table.Request(who, thing, m), wanted)
	want(t, table, before)
}

func wantHeld(t *testing.T, table *Table, holds ...Hold) {
	t.Helper()
	if got := table.Held(); !slices.Equal(got, holds) {
		t.Errorf("Held: %v, not %v", got, holds)
	}
}

func wantQueue(t *testing.T, table *Table, thing int, holds ...Hold) {
	t.Helper()
	if got := table.Queue(thing); !slices.Equal(got, holds) {
		t.Errorf("Queue(%d): %v, not %v", thing, got, holds)
	}
}

// ask is a request and what comes of it.
type ask struct {
	who, thing int
	m          mode.Mode
	want       api.Errno
}

func wantAsks(t *testing.T, table *Table, asks ...ask) {
	t.Helper()
	for i, a := range asks {
		k := kept(table)
		wantErrno(t, fmt.Sprint(i, a), table.Request(a.who, a.thing, a.m), a.want)
		wantErrno(t, fmt.Sprint("the second table: ", i, a), k.request(a.who, a.thing, a.m), a.want)
		want(t, table, k)
	}
}

// asked is a table of which these requests were made.
func asked(t *testing.T, asks ...ask) *Table {
	t.Helper()
	table := New()
	wantAsks(t, table, asks...)
	return table
}

// wantEnd wants who is let in by Free or Stop.
func wantEnd(t *testing.T, table *Table, c call, in ...int) {
	t.Helper()
	k := kept(table)
	got := do(table, c)
	wantList(t, fmt.Sprint(c.name, c.who), got.in, in...)
	wantList(t, fmt.Sprint("the second table: ", c.name, c.who), k.do(c).in, in...)
	want(t, table, k)
}

// The chapter's examples.

func TestExamples(t *testing.T) {
	table := New()
	wantErrno(t, "1 asks for X on 5", table.Request(1, 5, x), ok)
	wantErrno(t, "2 asks for X on 6", table.Request(2, 6, x), ok)
	wantErrno(t, "2 asks for S on 5", table.Request(2, 5, s), waits)
	wantErrno(t, "1 asks for X on 6", table.Request(1, 6, x), dead)
	wantHeld(t, table, Hold{1, 5, x}, Hold{2, 6, x})
	wantQueue(t, table, 5, Hold{2, 5, s})
	wantQueue(t, table, 6)
	wantList(t, "Behind(1)", table.Behind(1))
	wantList(t, "Behind(2)", table.Behind(2), 1)
	wantList(t, "Free(1)", table.Free(1), 2)
	wantHeld(t, table, Hold{2, 5, s}, Hold{2, 6, x})
	wantQueue(t, table, 5)
}

// P13.1: New, and the arguments of Request.

func TestNew(t *testing.T) {
	a, b := New(), New()
	want(t, a, second{})
	wantErrno(t, "Request", a.Request(1, 5, x), ok)
	want(t, b, second{})
	want(t, New(), second{})
}

var (
	noOwners = []int{math.MinInt, math.MinInt32, -maxWho, -1, 0, maxWho + 1, maxWho + 2, 1 << 24, 1<<32 + 1, 1<<32 + 2, math.MaxInt32, math.MaxInt}
	noThings = []int{math.MinInt, math.MinInt32, -maxThings, -5, -1, maxThings, maxThings + 1, 1<<8 + maxThings, 1<<16 + 5, 1<<32 + 5, 1<<32 + 6, math.MaxInt}
	noModes  = []mode.Mode{math.MinInt, -5, -1, 0, 6, 7, 1<<8 + 3, 1<<32 + 1, 1<<32 + 5, math.MaxInt}
)

func TestArguments(t *testing.T) {
	// Right requests of these owners for these things would be OK, ErrWait,
	// ErrState or ErrDead: see behind.
	table := asked(t, ask{1, 5, x, ok}, ask{2, 6, x, ok}, ask{2, 5, x, waits}, ask{4, 6, x, waits})
	for _, who := range slices.Concat(noOwners, []int{1, 2, 3, 4}) {
		for _, thing := range slices.Concat(noThings, []int{5, 6}) {
			for _, m := range slices.Concat(noModes, []mode.Mode{s, x}) {
				if slices.Contains(noOwners, who) || slices.Contains(noThings, thing) || slices.Contains(noModes, m) {
					wantErrno(t, fmt.Sprintf("Request(%d, %d, %d)", who, thing, m), table.Request(who, thing, m), arg)
				}
			}
		}
	}
	want(t, table, second{[]Hold{{1, 5, x}, {2, 6, x}}, []Hold{{2, 5, x}, {4, 6, x}}})
	wantStays(t, table, 1, 5, s, ok)
	wantStays(t, table, 2, 5, x, waits)
	wantStays(t, table, 4, 5, s, wrong)
	wantStays(t, table, 1, 6, s, dead)
	empty := New()
	for _, who := range noOwners {
		wantStays(t, empty, who, 5, s, arg)
	}
	for _, thing := range noThings {
		wantStays(t, empty, 1, thing, s, arg)
	}
	for _, m := range noModes {
		wantStays(t, empty, 1, 5, m, arg)
	}
}

func TestArgumentsAtTheEdges(t *testing.T) {
	for _, who := range []int{1, 2, 1 << 20, 1<<20 + 1, maxWho - 1, maxWho} {
		for _, thing := range []int{0, 1, 255, 256, maxThings - 2, maxThings - 1} {
			for _, m := range modes {
				table := asked(t, ask{who, thing, m, ok})
				wantHeld(t, table, Hold{who, thing, m})
				wantEnd(t, table, call{name: free, who: who})
			}
		}
	}
	var all []Hold
	table := New()
	for _, thing := range allThings() {
		wantErrno(t, "the same owner, another thing", table.Request(maxWho, thing, x), ok)
		all = append(all, Hold{maxWho, thing, x})
	}
	want(t, table, second{had: all})
}

// P13.1: a request by one who waits.

func TestWhoWaits(t *testing.T) {
	for _, m := range modes {
		table := asked(t, ask{1, 5, x, ok}, ask{2, 6, x, ok}, ask{2, 5, m, waits})
		wantErrno(t, "3 asks", table.Request(3, 8, x), ok)
		for _, now := range modes {
			wanted := wrong
			if now == m {
				wanted = waits
			}
			wantStays(t, table, 2, 5, now, wanted)
			// 2 has 6 itself, nobody has 7, and 3 has 8.
			wantStays(t, table, 2, 6, now, wrong)
			wantStays(t, table, 2, 7, now, wrong)
			wantStays(t, table, 2, 8, now, wrong)
		}
	}
}

// Who has the thing and waits for more of it is told ErrWait by all modes that
// come to the same together with what it has, and by these alone.
func TestWhoWaitsForMore(t *testing.T) {
	tests := []struct {
		had, other, asked mode.Mode
		same              []mode.Mode
	}{
		{is, ix, s, []mode.Mode{s}},
		{is, ix, six, []mode.Mode{six}},
		{is, ix, x, []mode.Mode{x}},
		{is, s, ix, []mode.Mode{ix}},
		{ix, ix, s, []mode.Mode{s, six}},
		{ix, ix, six, []mode.Mode{s, six}},
		{ix, is, x, []mode.Mode{x}},
		{s, s, ix, []mode.Mode{ix, six}},
		{s, s, six, []mode.Mode{ix, six}},
		{s, is, x, []mode.Mode{x}},
		{six, is, x, []mode.Mode{x}},
	}
	for _, test := range tests {
		table := asked(t, ask{1, 5, test.other, ok}, ask{2, 5, test.had, ok}, ask{2, 5, test.asked, waits})
		for _, m := range modes {
			wanted := wrong
			if slices.Contains(test.same, m) {
				wanted = waits
			}
			wantStays(t, table, 2, 5, m, wanted)
		}
		wantStays(t, table, 2, 6, test.asked, wrong)
	}
}

// P13.1: what is covered, and what is raised.

func TestCovered(t *testing.T) {
	for _, had := range modes {
		for _, m := range modes {
			if !mode.Covers(had, m) {
				continue
			}
			table := asked(t, ask{2, 5, had, ok})
			wantStays(t, table, 2, 5, m, ok)
			// Neither who waits nor who has the thing, too, plays a part.
			wantErrno(t, "1 asks", table.Request(1, 5, x), waits)
			wantStays(t, table, 2, 5, m, ok)
			wantHeld(t, table, Hold{2, 5, had})
		}
	}
	table := asked(t, ask{1, 5, is, ok}, ask{2, 5, six, ok}, ask{3, 5, is, ok}, ask{4, 5, ix, waits})
	for _, m := range []mode.Mode{is, ix, s, six} {
		wantStays(t, table, 2, 5, m, ok)
	}
	wantStays(t, table, 1, 5, is, ok)
}

// raised is what comes of a second request of the same owner, written out by
// hand.
var raised = map[[2]mode.Mode]mode.Mode{
	{is, is}: is, {is, ix}: ix, {is, s}: s, {is, six}: six, {is, x}: x,
	{ix, is}: ix, {ix, ix}: ix, {ix, s}: six, {ix, six}: six, {ix, x}: x,
	{s, is}: s, {s, ix}: six, {s, s}: s, {s, six}: six, {s, x}: x,
	{six, is}: six, {six, ix}: six, {six, s}: six, {six, six}: six, {six, x}: x,
	{x, is}: x, {x, ix}: x, {x, s}: x, {x, six}: x, {x, x}: x,
}

func TestRaisedAlone(t *testing.T) {
	for _, had := range modes {
		for _, m := range modes {
			table := asked(t, ask{2, 5, had, ok}, ask{1, 4, x, ok}, ask{1, 6, x, ok}, ask{2, 5, m, ok})
			wantHeld(t, table, Hold{1, 4, x}, Hold{2, 5, raised[[2]mode.Mode{had, m}]}, Hold{1, 6, x})
		}
	}
}

func TestRaisedBesideOthers(t *testing.T) {
	for _, had := range modes {
		for _, other := range modes {
			if !mode.Fits(had, other) {
				continue
			}
			for _, m := range modes {
				both := raised[[2]mode.Mode{had, m}]
				table := asked(t, ask{1, 5, other, ok}, ask{2, 5, had, ok})
				if mode.Fits(both, other) {
					wantAsks(t, table, ask{2, 5, m, ok})
					wantHeld(t, table, Hold{1, 5, other}, Hold{2, 5, both})
					wantQueue(t, table, 5)
					continue
				}
				wantAsks(t, table, ask{2, 5, m, waits})
				wantHeld(t, table, Hold{1, 5, other}, Hold{2, 5, had})
				wantQueue(t, table, 5, Hold{2, 5, both})
				wantEnd(t, table, call{name: free, who: 1}, 2)
				wantHeld(t, table, Hold{2, 5, both})
			}
		}
	}
}

// Who has the thing is raised past all who wait, if that fits.
func TestRaisedWhileOthersWait(t *testing.T) {
	table := asked(t,
		ask{1, 5, is, ok}, ask{2, 5, is, ok}, ask{3, 5, x, waits}, ask{4, 5, is, waits},
		ask{2, 5, ix, ok}, ask{1, 5, ix, ok}, ask{2, 5, s, waits})
	wantHeld(t, table, Hold{1, 5, ix}, Hold{2, 5, ix})
	wantQueue(t, table, 5, Hold{2, 5, six}, Hold{3, 5, x}, Hold{4, 5, is})
	wantEnd(t, table, call{name: stop, who: 2})
	wantEnd(t, table, call{name: free, who: 1})
	wantAsks(t, table, ask{2, 5, x, ok})
	wantQueue(t, table, 5, Hold{3, 5, x}, Hold{4, 5, is})
	wantList(t, "Behind(4)", table.Behind(4), 2, 3)
}

// P13.1: the place in the row.

func TestPlaceInTheRow(t *testing.T) {
	table := asked(t,
		ask{1, 5, is, ok}, ask{2, 5, is, ok}, ask{3, 5, is, ok}, ask{9, 5, s, ok},
		ask{8, 5, x, waits}, ask{4, 5, ix, waits}, ask{7, 5, s, waits},
		ask{3, 5, ix, waits}, ask{1, 5, ix, waits}, ask{6, 5, is, waits}, ask{2, 5, ix, waits}, ask{5, 5, s, waits})
	wantQueue(t, table, 5,
		Hold{3, 5, ix}, Hold{1, 5, ix}, Hold{2, 5, ix},
		Hold{8, 5, x}, Hold{4, 5, ix}, Hold{7, 5, s}, Hold{6, 5, is}, Hold{5, 5, s})
	wantEnd(t, table, call{name: free, who: 9}, 3, 1, 2)
	wantQueue(t, table, 5, Hold{8, 5, x}, Hold{4, 5, ix}, Hold{7, 5, s}, Hold{6, 5, is}, Hold{5, 5, s})
}

// Who stops waiting for more, and asks again, stands behind all others who have
// the thing.
func TestPlaceOfOneWhoComesBack(t *testing.T) {
	table := asked(t,
		ask{1, 5, is, ok}, ask{2, 5, is, ok}, ask{9, 5, s, ok}, ask{8, 5, x, waits},
		ask{1, 5, ix, waits}, ask{2, 5, ix, waits})
	wantEnd(t, table, call{name: stop, who: 1})
	wantAsks(t, table, ask{1, 5, ix, waits})
	wantQueue(t, table, 5, Hold{2, 5, ix}, Hold{1, 5, ix}, Hold{8, 5, x})
	wantEnd(t, table, call{name: stop, who: 8})
	wantAsks(t, table, ask{8, 5, is, waits})
	wantQueue(t, table, 5, Hold{2, 5, ix}, Hold{1, 5, ix}, Hold{8, 5, is})
}

// What fits waits all the same, if somebody waits for the thing already, and
// doesn't, if that is for another thing.
func TestFitsWhileSomebodyWaits(t *testing.T) {
	table := asked(t, ask{1, 5, s, ok}, ask{2, 5, x, waits}, ask{3, 5, s, waits}, ask{4, 5, is, waits}, ask{3, 5, s, waits})
	wantQueue(t, table, 5, Hold{2, 5, x}, Hold{3, 5, s}, Hold{4, 5, is})
	wantAsks(t, table, ask{5, 4, s, ok}, ask{5, 6, x, ok})
	raiser := asked(t, ask{1, 5, s, ok}, ask{2, 5, s, ok}, ask{1, 5, x, waits}, ask{3, 5, is, waits})
	wantQueue(t, raiser, 5, Hold{1, 5, x}, Hold{3, 5, is})
}

func TestTwoOwners(t *testing.T) {
	for _, had := range modes {
		for _, m := range modes {
			wanted := waits
			if mode.Fits(had, m) {
				wanted = ok
			}
			asked(t, ask{1, 5, had, ok}, ask{2, 5, m, wanted})
			asked(t, ask{2, 5, had, ok}, ask{1, 5, m, wanted})
		}
	}
}

// P13.1: rings.

// chain is a ring of so many owners but for its last request: each has a thing
// and all but the last wait for the next one's.
func chain(t *testing.T, n int, m mode.Mode) *Table {
	t.Helper()
	table := New()
	for i := range n {
		wantErrno(t, "Request", table.Request(i+1, i, m), ok)
	}
	for i := range n - 1 {
		wantErrno(t, "Request of the next one's", table.Request(i+1, i+1, x), waits)
	}
	return table
}

func TestRings(t *testing.T) {
	for _, n := range []int{2, 3, 4, 5, 9, 40, maxThings} {
		table := chain(t, n, s)
		before := kept(table)
		for _, m := range modes {
			if !mode.Fits(m, s) {
				wantErrno(t, fmt.Sprintf("a ring of %d", n), table.Request(n, 0, m), dead)
			}
		}
		if got := kept(table); got.key() != before.key() {
			t.Errorf("a ring of %d: %v, not %v", n, got, before)
		}
		if w, there := table.Waits(n); there {
			t.Errorf("a ring of %d: the last one waits for %v", n, w)
		}
		wantErrno(t, "what fits", table.Request(n, 0, s), ok)
		wantList(t, "Free of the last one", table.Free(n), n-1)
	}
}

func TestRingsOfTwo(t *testing.T) {
	for _, a := range modes {
		for _, b := range modes {
			for _, first := range modes {
				for _, last := range modes {
					if mode.Fits(b, first) {
						continue
					}
					table := asked(t, ask{1, 5, a, ok}, ask{2, 6, b, ok}, ask{1, 6, first, waits})
					if mode.Fits(a, last) {
						wantAsks(t, table, ask{2, 5, last, ok})
						continue
					}
					wantStays(t, table, 2, 5, last, dead)
				}
			}
		}
	}
}

// Rings of owners who all want more of one thing.
func TestRingsWithinOneThing(t *testing.T) {
	asked(t, ask{1, 5, s, ok}, ask{2, 5, s, ok}, ask{1, 5, x, waits}, ask{2, 5, x, dead}, ask{2, 5, ix, dead}, ask{2, 5, is, ok})
	asked(t, ask{1, 5, ix, ok}, ask{2, 5, ix, ok}, ask{2, 5, s, waits}, ask{1, 5, s, dead}, ask{1, 5, six, dead}, ask{1, 5, x, dead})
	asked(t, ask{1, 5, is, ok}, ask{2, 5, is, ok}, ask{1, 5, x, waits}, ask{2, 5, x, dead}, ask{2, 5, s, ok}, ask{2, 5, x, dead})
	table := asked(t, ask{1, 5, s, ok}, ask{2, 5, s, ok}, ask{3, 5, s, ok}, ask{3, 5, x, waits}, ask{1, 5, six, dead}, ask{2, 5, x, dead})
	wantEnd(t, table, call{name: free, who: 1})
	wantAsks(t, table, ask{2, 5, x, dead})
	wantEnd(t, table, call{name: free, who: 2}, 3)
	wantHeld(t, table, Hold{3, 5, x})
}

// Who stands in a row is gone behind by those who stand behind it, though their
// modes fit.
func TestRingsOverARow(t *testing.T) {
	// 3 would fit with 1, but has to go behind 2, who has to go behind 1.
	table := asked(t, ask{1, 5, s, ok}, ask{3, 6, x, ok}, ask{2, 5, x, waits}, ask{3, 5, s, waits})
	wantStays(t, table, 1, 6, is, dead)
	wantEnd(t, table, call{name: stop, who: 2}, 3)
	wantAsks(t, table, ask{1, 6, is, waits})

	// A long row: the last one's thing can't be had by the one who keeps the
	// first one out.
	row := asked(t, ask{1, 5, s, ok}, ask{2, 5, x, waits})
	for who := 3; who < 12; who++ {
		wantAsks(t, row, ask{who, 100 + who, x, ok}, ask{who, 5, s, waits})
	}
	for who := 3; who < 12; who++ {
		wantStays(t, row, 1, 100+who, s, dead)
	}
	wantAsks(t, row, ask{1, 112, x, ok})

	// 5 fits with all who have the thing, and 3, the first of the row, with 1:
	// 4, in between, alone has to go behind 1.
	between := asked(t,
		ask{1, 5, is, ok}, ask{2, 5, s, ok}, ask{5, 6, x, ok},
		ask{3, 5, ix, waits}, ask{4, 5, x, waits}, ask{5, 5, is, waits})
	wantStays(t, between, 1, 6, is, dead)
	wantEnd(t, between, call{name: stop, who: 4})
	wantAsks(t, between, ask{1, 6, is, waits})
}

// Who wants more stands ahead of those who don't have the thing, and that may
// close a ring: 1 has to go behind 2, 2 behind 3 by another thing, and 3 behind
// 1 by the row alone, as 1's IS fits with its IX.
func TestRingByThePlaceInTheRow(t *testing.T) {
	table := asked(t,
		ask{1, 5, is, ok}, ask{2, 5, is, ok}, ask{4, 5, s, ok}, ask{3, 6, x, ok},
		ask{3, 5, ix, waits}, ask{2, 6, s, waits})
	wantList(t, "Behind(3)", table.Behind(3), 4)
	wantList(t, "Behind(2)", table.Behind(2), 3)
	wantStays(t, table, 1, 5, x, dead)
	wantAsks(t, table, ask{1, 5, ix, waits})
	wantList(t, "Behind(1)", table.Behind(1), 4)
	wantList(t, "Behind(3) now", table.Behind(3), 1, 4)
}

// Many ways that lead to one owner are no ring, if none leads back.
func TestNoRings(t *testing.T) {
	table := asked(t,
		ask{4, 4, x, ok}, ask{2, 9, s, ok}, ask{3, 9, s, ok},
		ask{2, 4, s, waits}, ask{3, 4, s, waits}, ask{1, 9, x, waits},
		ask{5, 9, is, waits}, ask{6, 4, x, waits}, ask{4, 9, s, dead}, ask{4, 8, x, ok})
	wantList(t, "Behind(1)", table.Behind(1), 2, 3)
	wantList(t, "Behind(3)", table.Behind(3), 2, 4)
	wantList(t, "Behind(6)", table.Behind(6), 2, 3, 4)
	wantEnd(t, table, call{name: free, who: 4}, 2, 3)
	wantEnd(t, table, call{name: free, who: 2})
	wantEnd(t, table, call{name: free, who: 3}, 6, 1)
}

// Two owners for each of a hundred things, who have to go behind both of the
// next one's: more ways lead to the last ones than could be gone one by one.
func TestManyWays(t *testing.T) {
	table := New()
	const n = 100
	for i := n; i >= 0; i-- {
		for _, who := range []int{2*i + 1, 2*i + 2} {
			wantErrno(t, "Request", table.Request(who, i, s), ok)
			if i < n {
				wantErrno(t, "Request of the next one's", table.Request(who, i+1, x), waits)
			}
		}
	}
	wantErrno(t, "of the first ones'", table.Request(2*n+1, 0, x), dead)
	wantErrno(t, "of the first ones'", table.Request(2*n+2, 0, s), ok)
	wantErrno(t, "of another thing", table.Request(2*n+2, n+1, x), ok)
}

// A ring ends with any one of its owners' waiting or locks.
func TestRingEnds(t *testing.T) {
	for who := 1; who < 5; who++ {
		for _, name := range []string{free, stop} {
			table := chain(t, 5, x)
			wantErrno(t, "the ring", table.Request(5, 0, s), dead)
			do(table, call{name: name, who: who})
			wanted := waits
			if name == free && who == 1 {
				wanted = ok
			}
			wantErrno(t, fmt.Sprint(name, who), table.Request(5, 0, s), wanted)
		}
	}
}

// P13.2: Free and Stop.

func TestFreeBySeveralThings(t *testing.T) {
	table := asked(t,
		ask{1, 7, x, ok}, ask{1, 0, x, ok}, ask{1, 287, x, ok}, ask{1, 5, x, ok}, ask{2, 6, x, ok},
		ask{20, 7, s, waits}, ask{19, 7, s, waits}, ask{18, 7, x, waits},
		ask{31, 287, ix, waits}, ask{30, 287, ix, waits},
		ask{40, 0, x, waits}, ask{10, 0, x, waits},
		ask{50, 6, x, waits}, ask{2, 5, s, waits})
	wantEnd(t, table, call{name: free, who: 1}, 40, 2, 20, 19, 31, 30)
	wantHeld(t, table,
		Hold{40, 0, x}, Hold{2, 5, s}, Hold{2, 6, x}, Hold{19, 7, s}, Hold{20, 7, s}, Hold{30, 287, ix}, Hold{31, 287, ix})
	wantQueue(t, table, 0, Hold{10, 0, x})
	wantQueue(t, table, 6, Hold{50, 6, x})
	wantQueue(t, table, 7, Hold{18, 7, x})
	wantEnd(t, table, call{name: free, who: 2}, 50)
	wantEnd(t, table, call{name: free, who: 40}, 10)
	wantEnd(t, table, call{name: free, who: 20})
	wantEnd(t, table, call{name: free, who: 19}, 18)
}

// In a row behind X: the first one gets in, and each further one, as long as it
// fits with all ahead of it.
func TestLetIn(t *testing.T) {
	for _, a := range modes {
		for _, b := range modes {
			for _, c := range modes {
				table := asked(t, ask{1, 5, x, ok}, ask{4, 5, a, waits}, ask{3, 5, b, waits}, ask{2, 5, c, waits})
				in := []int{4}
				if mode.Fits(a, b) {
					in = append(in, 3)
					if mode.Fits(a, c) && mode.Fits(b, c) {
						in = append(in, 2)
					}
				}
				wantEnd(t, table, call{name: free, who: 1}, in...)
				if got := len(table.Queue(5)); got != 3-len(in) {
					t.Errorf("%d, %d, %d: %d are left in the row", a, b, c, got)
				}
			}
		}
	}
}

// Nobody gets in past one who doesn't.
func TestNobodyGetsPast(t *testing.T) {
	table := asked(t, ask{1, 5, x, ok}, ask{2, 5, s, waits}, ask{3, 5, ix, waits}, ask{4, 5, s, waits}, ask{5, 5, is, waits})
	wantEnd(t, table, call{name: free, who: 1}, 2)
	wantQueue(t, table, 5, Hold{3, 5, ix}, Hold{4, 5, s}, Hold{5, 5, is})
	wantEnd(t, table, call{name: free, who: 2}, 3)
	wantEnd(t, table, call{name: free, who: 3}, 4, 5)
}

func TestStop(t *testing.T) {
	begun := func() *Table {
		return asked(t,
			ask{1, 5, s, ok}, ask{2, 6, x, ok},
			ask{2, 5, x, waits}, ask{3, 5, s, waits}, ask{4, 5, is, waits}, ask{5, 5, x, waits}, ask{6, 5, s, waits})
	}
	first := begun()
	wantEnd(t, first, call{name: stop, who: 2}, 3, 4)
	wantHeld(t, first, Hold{1, 5, s}, Hold{3, 5, s}, Hold{4, 5, is}, Hold{2, 6, x})
	wantQueue(t, first, 5, Hold{5, 5, x}, Hold{6, 5, s})
	wantAsks(t, first, ask{2, 7, x, ok}, ask{2, 5, is, waits})

	middle := begun()
	wantEnd(t, middle, call{name: stop, who: 4})
	wantQueue(t, middle, 5, Hold{2, 5, x}, Hold{3, 5, s}, Hold{5, 5, x}, Hold{6, 5, s})

	last := begun()
	wantEnd(t, last, call{name: stop, who: 6})
	wantQueue(t, last, 5, Hold{2, 5, x}, Hold{3, 5, s}, Hold{4, 5, is}, Hold{5, 5, x})

	freed := begun()
	wantEnd(t, freed, call{name: free, who: 2}, 3, 4)
	wantHeld(t, freed, Hold{1, 5, s}, Hold{3, 5, s}, Hold{4, 5, is})

	twice := begun()
	wantEnd(t, twice, call{name: stop, who: 2}, 3, 4)
	wantEnd(t, twice, call{name: stop, who: 2})
	wantEnd(t, twice, call{name: stop, who: 3})
	wantEnd(t, twice, call{name: free, who: 1})
	wantEnd(t, twice, call{name: free, who: 3})
	wantEnd(t, twice, call{name: free, who: 4}, 5)
}

// Who wants more: its own lock doesn't keep it out, and stays behind Stop.
func TestEndsOfOneWhoWantsMore(t *testing.T) {
	begun := func() *Table {
		return asked(t, ask{1, 5, s, ok}, ask{2, 5, s, ok}, ask{3, 5, is, ok}, ask{4, 5, s, ok}, ask{2, 5, ix, waits}, ask{6, 5, s, waits})
	}
	table := begun()
	wantEnd(t, table, call{name: free, who: 1})
	wantEnd(t, table, call{name: free, who: 4}, 2)
	wantHeld(t, table, Hold{2, 5, six}, Hold{3, 5, is})
	wantQueue(t, table, 5, Hold{6, 5, s})
	wantEnd(t, table, call{name: free, who: 2}, 6)

	stopped := begun()
	wantEnd(t, stopped, call{name: stop, who: 2}, 6)
	wantHeld(t, stopped, Hold{1, 5, s}, Hold{2, 5, s}, Hold{3, 5, is}, Hold{4, 5, s}, Hold{6, 5, s})

	freed := begun()
	wantEnd(t, freed, call{name: free, who: 2}, 6)
	wantHeld(t, freed, Hold{1, 5, s}, Hold{3, 5, is}, Hold{4, 5, s}, Hold{6, 5, s})
}

func TestEndsOfOneWhoHasNothing(t *testing.T) {
	table := asked(t, ask{1, 5, s, ok}, ask{2, 5, x, waits}, ask{3, 5, s, waits}, ask{4, 0, x, ok})
	before := kept(table)
	for _, who := range slices.Concat(noOwners, []int{5, 6, 256, 1<<16 + 1, 1<<20 + 2, maxWho}) {
		for _, name := range []string{free, stop} {
			wantList(t, fmt.Sprint(name, who), do(table, call{name: name, who: who}).in)
			wantList(t, fmt.Sprint("of none: ", name, who), do(New(), call{name: name, who: who}).in)
		}
	}
	wantEnd(t, table, call{name: stop, who: 1})
	wantEnd(t, table, call{name: stop, who: 4})
	want(t, table, before)
}

func TestFreeTwice(t *testing.T) {
	table := asked(t, ask{1, 5, x, ok}, ask{1, 6, s, ok}, ask{2, 5, s, waits})
	wantEnd(t, table, call{name: free, who: 1}, 2)
	wantEnd(t, table, call{name: free, who: 1})
	wantEnd(t, table, call{name: free, who: 2})
	want(t, table, second{})
	wantAsks(t, table, ask{1, 5, x, ok}, ask{2, 6, x, ok})
}

// P13.3: what a table tells.

func TestTold(t *testing.T) {
	table := asked(t,
		ask{30, 9, is, ok}, ask{4, 9, s, ok}, ask{300, 9, is, ok}, ask{12, 9, is, ok}, ask{4, 2, x, ok}, ask{maxWho, 10, ix, ok},
		ask{300, 9, ix, waits}, ask{8, 9, x, waits}, ask{2, 9, is, waits}, ask{30, 9, ix, waits}, ask{5, 2, is, waits})
	wantHeld(t, table, Hold{4, 2, x}, Hold{4, 9, s}, Hold{12, 9, is}, Hold{30, 9, is}, Hold{300, 9, is}, Hold{maxWho, 10, ix})
	wantQueue(t, table, 9, Hold{300, 9, ix}, Hold{30, 9, ix}, Hold{8, 9, x}, Hold{2, 9, is})
	wantQueue(t, table, 2, Hold{5, 2, is})
	wantQueue(t, table, 10)
	// 30 and 300 have the thing, and stand in the row, too.
	wantList(t, "Behind(8)", table.Behind(8), 4, 12, 30, 300)
	wantList(t, "Behind(2)", table.Behind(2), 8, 30, 300)
	wantList(t, "Behind(30)", table.Behind(30), 4, 300)
	wantList(t, "Behind(300)", table.Behind(300), 4)
	wantList(t, "Behind(5)", table.Behind(5), 4)
	wantList(t, "Behind(4)", table.Behind(4))
	if w, there := table.Waits(30); w != (Hold{30, 9, ix}) || !there {
		t.Errorf("Waits(30): %v, %t", w, there)
	}
	if w, there := table.Waits(4); w != (Hold{}) || there {
		t.Errorf("Waits(4): %v, %t", w, there)
	}
	if m := table.Holds(30, 9); m != is {
		t.Errorf("Holds(30, 9): %d", m)
	}
	if m := table.Holds(8, 9); m != 0 {
		t.Errorf("Holds(8, 9): %d", m)
	}
}

func TestToldOfWhatIsNone(t *testing.T) {
	table := asked(t, ask{1, 5, x, ok}, ask{2, 5, s, waits}, ask{1, 0, s, ok}, ask{1, 287, s, ok}, ask{maxWho, 0, x, waits})
	before := kept(table)
	for _, who := range slices.Concat(noOwners, []int{3, 1<<20 + 1}) {
		wantList(t, fmt.Sprint("Behind", who), table.Behind(who))
		if w, there := table.Waits(who); w != (Hold{}) || there {
			t.Errorf("Waits(%d): %v, %t", who, w, there)
		}
		for _, thing := range slices.Concat(noThings, []int{0, 5, 287}) {
			if m := table.Holds(who, thing); m != 0 {
				t.Errorf("Holds(%d, %d): %d", who, thing, m)
			}
		}
	}
	for _, thing := range noThings {
		wantQueue(t, table, thing)
		for _, who := range []int{1, 2, maxWho} {
			if m := table.Holds(who, thing); m != 0 {
				t.Errorf("Holds(%d, %d): %d", who, thing, m)
			}
		}
	}
	want(t, table, before)
}

// P13.1 to P13.4, step by step.

// calls are all requests and ends of the owners from 1 on.
func calls(owners int, things []int, modes []mode.Mode) []call {
	var all []call
	for who := 1; who <= owners; who++ {
		for _, thing := range things {
			for _, m := range modes {
				all = append(all, call{asking, who, thing, m})
			}
		}
		all = append(all, call{name: free, who: who}, call{name: stop, who: who})
	}
	return all
}

// lay makes a table that keeps just what the second table keeps.
func lay(table *Table, k second, things []int) {
	for _, thing := range things {
		table.places[thing] = place{}
	}
	for _, h := range k.had {
		p := &table.places[h.Thing]
		p.had = append(p.had, h)
	}
	for _, h := range k.waiting {
		p := &table.places[h.Thing]
		p.row = append(p.row, h)
	}
}

// wantStep does one call of both tables.
func wantStep(t *testing.T, table *Table, k *second, c call, owners, things []int) {
	t.Helper()
	got, wanted := do(table, c), k.do(c)
	if got.errno != wanted.errno || !slices.Equal(got.in, wanted.in) {
		t.Errorf("%v: %v, not %v", c, got, wanted)
	}
	wantTold(t, table, *k, owners, things)
	wantRight(t, table, owners, things)
}

// wantAll does every call on every table that can be reached by them.
func wantAll(t *testing.T, count int, things []int, modes []mode.Mode) {
	t.Helper()
	all := calls(count, things, modes)
	var owners []int
	for who := 1; who <= count; who++ {
		owners = append(owners, who)
	}
	table := New()
	seen := map[string]struct{}{second{}.key(): {}}
	for todo := []second{{}}; len(todo) > 0; todo = todo[1:] {
		for _, c := range all {
			k := todo[0].clone()
			lay(table, k, things)
			wantStep(t, table, &k, c, owners, things)
			if t.Failed() {
				t.Fatalf("%v, from %v", c, todo[0])
			}
			if _, again := seen[k.key()]; !again {
				seen[k.key()] = struct{}{}
				todo = append(todo, k)
			}
		}
	}
	t.Logf("%d tables", len(seen))
}

func TestAllSmallTables(t *testing.T) {
	tests := []struct {
		owners int
		things []int
		modes  []mode.Mode
	}{
		{2, []int{0, 287}, modes},
		{3, []int{5}, modes},
		{4, []int{5}, []mode.Mode{s, x}},
		{4, []int{5}, []mode.Mode{is, ix, s}},
		{3, []int{5, 6}, []mode.Mode{is, x}},
		{3, []int{5, 6}, []mode.Mode{ix, s}},
	}
	for _, test := range tests {
		t.Run(fmt.Sprint(test.owners, test.things, test.modes), func(t *testing.T) {
			t.Parallel()
			wantAll(t, test.owners, test.things, test.modes)
		})
	}
}

// Long ways of random calls, and in the end all are freed.
func TestLongWays(t *testing.T) {
	tests := []struct {
		owners, things []int
		modes          []mode.Mode
	}{
		{[]int{1, 2, 3}, []int{0, 1}, modes},
		{[]int{1, 2, 3, 4}, []int{3, 4, 5}, modes},
		{[]int{1, 2, 1 << 20, 1<<20 + 1, maxWho}, []int{0, 256, 287}, modes},
		{[]int{1, 2, 3, 4, 5, 6}, []int{5, 6}, []mode.Mode{is, is, ix, s, x}},
		{[]int{9, 8, 7, 6, 5, 4, 3, 2, 1}, []int{7}, []mode.Mode{is, ix, s}},
		{[]int{1, 2, 3, 4, 5, 6, 7, 8, 9, 10, 11, 12}, []int{0, 1, 2, 3, 4, 5, 6, 7}, []mode.Mode{is, is, ix, ix, s, six, x}},
		{[]int{1, 2, 3, 4, 5, 6, 7, 8, 9, 10, 11, 12}, []int{10, 20, 30, 40, 50}, []mode.Mode{s, x}},
	}
	seen := map[api.Errno]int{}
	for seed, test := range tests {
		random := rand.New(rand.NewSource(int64(seed)))
		table, k := New(), second{}
		for range 6000 {
			c := call{asking, test.owners[random.Intn(len(test.owners))], test.things[random.Intn(len(test.things))], test.modes[random.Intn(len(test.modes))]}
			switch random.Intn(16) {
			case 0, 1:
				c = call{name: free, who: c.who}
			case 2:
				c = call{name: stop, who: c.who}
			case 3:
				c.who = noOwners[random.Intn(len(noOwners))]
			}
			before := k.clone()
			wantStep(t, table, &k, c, test.owners, test.things)
			if t.Failed() {
				t.Fatalf("%v, from %v", c, before)
			}
			seen[before.request(c.who, c.thing, c.m)]++
		}
		for _, i := range random.Perm(len(test.owners)) {
			wantStep(t, table, &k, call{name: free, who: test.owners[i]}, test.owners, test.things)
		}
		want(t, table, second{})
	}
	for _, errno := range []api.Errno{ok, arg, dead, waits, wrong} {
		if seen[errno] < 100 {
			t.Errorf("the error %d came only %d times", errno, seen[errno])
		}
	}
}

// P13.4: when all have been freed nothing is left, whatever their order.

func TestNothingIsLeft(t *testing.T) {
	for seed := range 50 {
		random := rand.New(rand.NewSource(int64(seed)))
		table := New()
		for range 200 {
			table.Request(1+random.Intn(20), random.Intn(6)*57, modes[random.Intn(5)])
		}
		for _, i := range random.Perm(20) {
			table.Free(i + 1)
		}
		want(t, table, second{})
	}
}

// Rows of a thousand, and as many who have one thing, are no trouble.
func TestManyOwners(t *testing.T) {
	const n = 1000
	table := New()
	wantErrno(t, "Request", table.Request(maxWho, 5, x), ok)
	var row, held []Hold
	var in []int
	for i := range n {
		who := maxWho - 1 - i
		wantErrno(t, "Request", table.Request(who, 5, s), waits)
		row = append(row, Hold{who, 5, s})
		held = append(held, Hold{who, 5, s})
		in = append(in, who)
	}
	wantQueue(t, table, 5, row...)
	wantErrno(t, "Request", table.Request(1, 6, x), ok)
	wantErrno(t, "Request", table.Request(1, 5, x), waits)
	wantErrno(t, "Request", table.Request(maxWho, 6, x), dead)
	wantList(t, "Free", table.Free(maxWho), in...)
	slices.Reverse(held)
	wantHeld(t, table, append(held, Hold{1, 6, x})...)
	for i := range n {
		last := i == n-1
		if got := table.Free(in[i]); (len(got) > 0) != last {
			t.Errorf("Free of the %dth: %v", i, got)
		}
	}
	wantHeld(t, table, Hold{1, 5, x}, Hold{1, 6, x})
}

// P13.1, P13.5: the zero Table, and a nil one.

func TestZero(t *testing.T) {
	var table Table
	want(t, &table, second{})
	wantEnd(t, &table, call{name: free, who: 1})
	wantEnd(t, &table, call{name: stop, who: 1})
	wantAsks(t, &table, ask{1, 5, x, ok}, ask{2, 6, x, ok}, ask{2, 5, s, waits}, ask{1, 6, s, dead}, ask{0, 5, s, arg})
	wantEnd(t, &table, call{name: free, who: 1}, 2)
}

func TestNil(t *testing.T) {
	var table *Table
	for _, who := range slices.Concat(noOwners, []int{1, 2, maxWho}) {
		for _, thing := range slices.Concat(noThings, []int{0, 5, maxThings - 1}) {
			for _, m := range slices.Concat(noModes, modes) {
				wantErrno(t, fmt.Sprintf("Request(%d, %d, %d)", who, thing, m), table.Request(who, thing, m), arg)
			}
			if m := table.Holds(who, thing); m != 0 {
				t.Errorf("Holds(%d, %d): %d", who, thing, m)
			}
			wantQueue(t, table, thing)
		}
		wantList(t, "Free", table.Free(who))
		wantList(t, "Stop", table.Stop(who))
		wantList(t, "Behind", table.Behind(who))
		if w, there := table.Waits(who); w != (Hold{}) || there {
			t.Errorf("Waits(%d): %v, %t", who, w, there)
		}
	}
	wantHeld(t, table)
}

// R3: what comes out is memory of its own.

// scribble writes over all of a list, and behind its end.
func scribble[T any](list []T, junk T) {
	list = append(list, junk, junk)
	list = list[:cap(list)]
	for i := range list {
		list[i] = junk
	}
}

func TestAnswersAreNew(t *testing.T) {
	table := asked(t,
		ask{1, 5, s, ok}, ask{2, 5, s, ok}, ask{1, 6, ix, ok}, ask{3, 5, x, waits}, ask{4, 5, s, waits}, ask{5, 5, s, waits},
		ask{6, 6, s, waits}, ask{7, 7, x, ok}, ask{8, 7, is, waits}, ask{9, 7, is, waits})
	before := kept(table)
	junk := Hold{99, 99, x}
	for range 2 {
		scribble(table.Held(), junk)
		for _, thing := range allThings() {
			scribble(table.Queue(thing), junk)
			// The list itself, without growing first.
			for _, list := range [][]Hold{table.Queue(thing), table.Held()} {
				for i := range list {
					list[i] = junk
				}
				_ = append(list[:0], junk)
			}
		}
		for who := range 10 {
			list := table.Behind(who)
			for i := range list {
				list[i] = 99
			}
			scribble(table.Behind(who), 99)
		}
		want(t, table, before)
	}
	for _, c := range []call{{name: stop, who: 3}, {name: free, who: 7}, {name: free, who: 1}, {name: free, who: 2}} {
		k := kept(table)
		k.do(c)
		in := do(table, c).in
		for i := range in {
			in[i] = 99
		}
		scribble(in, 99)
		want(t, table, k)
	}
}

// An answer that was given isn't changed by what is done later.
func TestAnswersStay(t *testing.T) {
	table := asked(t, ask{1, 5, s, ok}, ask{2, 5, s, ok}, ask{3, 5, x, waits}, ask{4, 5, s, waits})
	held, row, behind := table.Held(), table.Queue(5), table.Behind(4)
	in := table.Stop(3)
	for who := 1; who < 5; who++ {
		table.Free(who)
	}
	wantAsks(t, table, ask{9, 5, x, ok}, ask{8, 5, x, waits}, ask{7, 5, x, waits})
	if !slices.Equal(held, []Hold{{1, 5, s}, {2, 5, s}}) || !slices.Equal(row, []Hold{{3, 5, x}, {4, 5, s}}) {
		t.Errorf("Held and Queue became %v, %v", held, row)
	}
	wantList(t, "Behind", behind, 3)
	wantList(t, "Stop", in, 4)
}

// R6: tables are apart, and the same calls come to the same.

func TestTablesAreApart(t *testing.T) {
	for seed := range 5 {
		random := rand.New(rand.NewSource(int64(seed)))
		all := calls(6, []int{5, 6, 7}, modes)
		a, b := New(), New()
		var ways [2][]call
		var answers [2][]string
		for range 400 {
			i := random.Intn(2)
			c := all[random.Intn(len(all))]
			ways[i] = append(ways[i], c)
			answers[i] = append(answers[i], fmt.Sprint(do([]*Table{a, b}[i], c)))
		}
		for i, was := range []*Table{a, b} {
			alone := New()
			for n, c := range ways[i] {
				if got := fmt.Sprint(do(alone, c)); got != answers[i][n] {
					t.Fatalf("%v: %s, not %s", c, got, answers[i][n])
				}
			}
			if got, wanted := kept(alone), kept(was); got.key() != wanted.key() {
				t.Errorf("%v, not %v", got, wanted)
			}
		}
	}
}
