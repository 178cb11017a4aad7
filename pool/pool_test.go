package pool

import (
	"fmt"
	"math"
	"math/rand"
	"slices"
	"testing"

	"quayside/api"
)

const (
	maxPages  = api.MaxPages
	maxFrames = api.MaxFrames
)

// row is a frame of the second pool.
type row struct {
	there bool
	id    int
	held  string
	mark  bool
	fixes int
	dirty bool
	since uint64
}

// second is a pool as the chapter tells it, one value that is compared and
// copied as a whole.
type second struct {
	count int
	rows  [maxFrames]row
	hand  int
}

// call is a call of a pool, and answer what came of it.
type call struct {
	name string
	id   int
	x    string
	rec  uint64
}

type answer struct {
	held  string
	ok    bool
	id    int
	rec   uint64
	errno api.Errno
}

func (s *second) at(id int) *row {
	for i := range s.rows[:s.count] {
		if s.rows[i].there && s.rows[i].id == id {
			return &s.rows[i]
		}
	}
	return nil
}

func (s *second) put(id int, x string) api.Errno {
	if id < 0 || id > maxPages-1 {
		return api.ErrArg
	}
	if s.at(id) != nil {
		return api.ErrExists
	}
	for i := range s.rows[:s.count] {
		if !s.rows[i].there {
			s.rows[i] = row{there: true, id: id, held: x, mark: true}
			return api.OK
		}
	}
	return api.ErrPool
}

func (s *second) victim() (int, api.Errno) {
	may := false
	for _, r := range s.rows[:s.count] {
		may = may || r.there && r.fixes == 0
	}
	if !may {
		return 0, api.ErrPool
	}
	for {
		r := &s.rows[s.hand]
		s.hand++
		if s.hand == s.count {
			s.hand = 0
		}
		if !r.there || r.fixes != 0 {
			continue
		}
		if r.mark {
			r.mark = false
			continue
		}
		return r.id, api.OK
	}
}

// onPage does those calls that are ErrNone if the page isn't there.
func (s *second) onPage(c call) api.Errno {
	r := s.at(c.id)
	if r == nil {
		return api.ErrNone
	}
	switch c.name {
	case "Set":
		r.held = c.x
		if c.rec != 0 && !r.dirty {
			r.dirty, r.since = true, c.rec
		}
	case "Clean":
		r.dirty, r.since = false, 0
	case "Fix":
		r.fixes++
	case "Unfix":
		if r.fixes == 0 {
			return api.ErrState
		}
		r.fixes--
	case "Drop":
		if r.fixes != 0 {
			return api.ErrState
		}
		*r = row{}
	}
	return api.OK
}

func (s *second) do(c call) answer {
	switch c.name {
	case "Get":
		r := s.at(c.id)
		if r == nil {
			return answer{}
		}
		r.mark = true
		return answer{held: r.held, ok: true}
	case "Put":
		return answer{errno: s.put(c.id, c.x)}
	case "Victim":
		id, errno := s.victim()
		return answer{id: id, errno: errno}
	}
	return answer{errno: s.onPage(c)}
}

// do does a call of a pool that holds anything, made of a text and told as one.
func do[T any](p *Pool[T], c call, from func(string) T, text func(T) string) answer {
	switch c.name {
	case "Get":
		x, ok := p.Get(c.id)
		return answer{held: text(x), ok: ok}
	case "Put":
		return answer{errno: p.Put(c.id, from(c.x))}
	case "Set":
		return answer{errno: p.Set(c.id, from(c.x), c.rec)}
	case "Clean":
		return answer{errno: p.Clean(c.id)}
	case "Fix":
		return answer{errno: p.Fix(c.id)}
	case "Unfix":
		return answer{errno: p.Unfix(c.id)}
	case "Drop":
		return answer{errno: p.Drop(c.id)}
	}
	id, errno := p.Victim()
	return answer{id: id, errno: errno}
}

func asIs(x string) string { return x }

func doText(p *Pool[string], c call) answer {
	return do(p, c, asIs, asIs)
}

// wantTold holds what a pool tells of itself against the second pool.
func wantTold[T any](t *testing.T, p *Pool[T], s second) {
	t.Helper()
	var pages []int
	var dirty []api.DirtyRow
	full := true
	for id := range maxPages {
		r := s.at(id)
		if r == nil {
			r = &row{}
		}
		if r.there {
			pages = append(pages, id)
		}
		if r.dirty {
			dirty = append(dirty, api.DirtyRow{Page: id, Rec: r.since})
		}
		if rec, ok := p.Rec(id); rec != r.since || ok != r.dirty {
			t.Errorf("Rec(%d): %d, %v, not %d, %v", id, rec, ok, r.since, r.dirty)
		}
	}
	for _, r := range s.rows[:s.count] {
		full = full && r.there
	}
	if got := p.Pages(); !slices.Equal(got, pages) {
		t.Errorf("Pages: %v, not %v", got, pages)
	}
	if got := p.Dirty(); !slices.Equal(got, dirty) {
		t.Errorf("Dirty: %v, not %v", got, dirty)
	}
	if got := p.Full(); got != full {
		t.Errorf("Full: %v, not %v", got, full)
	}
}

// kept is all of a pool, marks and the hand too, which no call tells by itself.
func kept(p *Pool[string]) second {
	s := second{count: len(p.frames), hand: p.hand}
	for i, f := range p.frames {
		s.rows[i] = row{f.used, f.id, f.held, f.marked, f.fixes, f.rec != 0, f.rec}
	}
	return s
}

// want asks twice, since asking must change nothing.
func want(t *testing.T, p *Pool[string], s second) {
	t.Helper()
	for range 2 {
		wantTold(t, p, s)
		if got := kept(p); got != s {
			t.Errorf("the pool is %v, not %v", got, s)
		}
	}
}

func wantErrno(t *testing.T, name string, got, wanted api.Errno) {
	t.Helper()
	if got != wanted {
		t.Errorf("%s: %d, not %d", name, got, wanted)
	}
}

// wantRefused wants an error of a call, and that nothing is changed by it.
func wantRefused(t *testing.T, p *Pool[string], c call, wanted api.Errno) {
	t.Helper()
	before := kept(p)
	if got := doText(p, c); got != (answer{errno: wanted}) {
		t.Errorf("%v: %v, not the error %d alone", c, got, wanted)
	}
	want(t, p, before)
}

func wantVictims(t *testing.T, p *Pool[string], ids ...int) {
	t.Helper()
	for i, id := range ids {
		if got, errno := p.Victim(); got != id || errno != api.OK {
			t.Errorf("Victim %d: %d, %d, not %d", i, got, errno, id)
		}
	}
}

func wantGet(t *testing.T, p *Pool[string], id int, x string) {
	t.Helper()
	if got, ok := p.Get(id); got != x || !ok {
		t.Errorf("Get(%d): %q, %v, not %q", id, got, ok, x)
	}
}

func wantNoGet(t *testing.T, p *Pool[string], id int) {
	t.Helper()
	before := kept(p)
	if got, ok := p.Get(id); got != "" || ok {
		t.Errorf("Get(%d) of what isn't there: %q, %v", id, got, ok)
	}
	want(t, p, before)
}

func wantPages(t *testing.T, p *Pool[string], ids ...int) {
	t.Helper()
	if got := p.Pages(); !slices.Equal(got, ids) {
		t.Errorf("Pages: %v, not %v", got, ids)
	}
}

func name(id int) string { return fmt.Sprint("p", id) }

// holding is a pool of some frames with these pages, one behind the other, all
// of them marked.
func holding(t *testing.T, frames int, ids ...int) *Pool[string] {
	t.Helper()
	p := New[string](frames)
	for _, id := range ids {
		wantErrno(t, fmt.Sprint("Put ", id), p.Put(id, name(id)), api.OK)
	}
	return p
}

// unmarked is such a pool, full, without a mark, and its hand stands at the
// first frame.
func unmarked(t *testing.T, ids ...int) *Pool[string] {
	t.Helper()
	p := holding(t, len(ids), ids...)
	wantVictims(t, p, ids...)
	for _, r := range kept(p).rows {
		if r.mark {
			t.Fatalf("a mark is left: %v", kept(p))
		}
	}
	return p
}

// notThere are numbers of pages that a pool with 5 and 7 hasn't got.
var notThere = []int{math.MinInt, -1 << 32, -5, -1, 0, 4, 6, 8, maxPages - 1, maxPages, maxPages + 5, 1<<32 + 5, 1<<32 + 7, math.MaxInt}

// The chapter's examples.

func TestExamples(t *testing.T) {
	p := holding(t, 2, 5, 7)
	wantVictims(t, p, 5)
	if s := kept(p); s.rows[0].mark || s.rows[1].mark || s.hand != 1 {
		t.Errorf("behind the first Victim: %v", s)
	}
	wantGet(t, p, 7, "p7")
	wantVictims(t, p, 5)
	if s := kept(p); s.rows[1].mark || s.hand != 1 {
		t.Errorf("behind the second Victim: %v", s)
	}
	wantErrno(t, "Fix", p.Fix(5), api.OK)
	wantVictims(t, p, 7)
	wantPages(t, p, 5, 7)
}

// P11.1: New.

func TestNew(t *testing.T) {
	tests := []struct{ frames, want int }{
		{math.MinInt, 1},
		{-maxFrames, 1},
		{-1, 1},
		{0, 1},
		{1, 1},
		{2, 2},
		{3, 3},
		{maxFrames - 1, maxFrames - 1},
		{maxFrames, maxFrames},
		{maxFrames + 1, maxFrames},
		{maxPages, maxFrames},
		{1<<32 + 2, maxFrames},
		{math.MaxInt, maxFrames},
	}
	for _, test := range tests {
		p := New[string](test.frames)
		wanted := second{count: test.want}
		want(t, p, wanted)
		wantRefused(t, p, call{name: "Victim"}, api.ErrPool)
		for i := range test.want {
			id := maxPages - 1 - i
			wantErrno(t, "Put", p.Put(id, name(id)), api.OK)
			wanted.rows[i] = row{there: true, id: id, held: name(id), mark: true}
			want(t, p, wanted)
			if p.Full() != (i == test.want-1) {
				t.Errorf("%d of %d frames: Full is %v", i+1, test.want, p.Full())
			}
		}
		wantRefused(t, p, call{name: "Put", id: 3}, api.ErrPool)
	}
}

// P11.1: Get.

func TestGet(t *testing.T) {
	p := holding(t, 3, 5, 7)
	wantGet(t, p, 5, "p5")
	wantGet(t, p, 7, "p7")
	wantGet(t, p, 5, "p5")
	for _, id := range notThere {
		wantNoGet(t, p, id)
	}
	wantNoGet(t, New[string](2), 0)
}

func TestGetMarks(t *testing.T) {
	ids := []int{5, 7, 3}
	for i, id := range ids {
		p := unmarked(t, ids...)
		wanted := kept(p)
		wantGet(t, p, id, name(id))
		wanted.rows[i].mark = true
		want(t, p, wanted)
		wantGet(t, p, id, name(id))
		want(t, p, wanted)
	}
	p := unmarked(t, ids...)
	wantGet(t, p, 5, "p5")
	wantGet(t, p, 7, "p7")
	wantVictims(t, p, 3, 5, 7)
}

// Of all calls Get and Put alone mark a page.
func TestNothingElseMarks(t *testing.T) {
	calls := []call{
		{name: "Set", id: 5, x: "y", rec: 4},
		{name: "Set", id: 5, x: "z"},
		{name: "Clean", id: 5},
		{name: "Fix", id: 5},
		{name: "Unfix", id: 5},
		{name: "Put", id: 5},
	}
	p := unmarked(t, 5, 7)
	for _, c := range calls {
		doText(p, c)
		p.Rec(5)
		p.Dirty()
		p.Pages()
		p.Full()
		if kept(p).rows[0].mark {
			t.Errorf("%v marks the page", c)
		}
	}
	wantVictims(t, p, 5, 7)
}

// P11.1: Put.

func TestPutOfEachId(t *testing.T) {
	tests := []struct {
		id     int
		wanted api.Errno
	}{
		{math.MinInt, api.ErrArg},
		{-1 << 32, api.ErrArg},
		{-maxPages, api.ErrArg},
		{-1, api.ErrArg},
		{0, api.OK},
		{1, api.OK},
		{maxPages - 1, api.OK},
		{maxPages, api.ErrArg},
		{maxPages + 1, api.ErrArg},
		{1 << 32, api.ErrArg},
		{1<<32 + 1, api.ErrArg},
		{math.MaxInt, api.ErrArg},
	}
	for _, test := range tests {
		p := New[string](2)
		c := call{name: "Put", id: test.id, x: "x"}
		if test.wanted != api.OK {
			wantRefused(t, p, c, test.wanted)
			wantNoGet(t, p, test.id)
			continue
		}
		wantErrno(t, fmt.Sprint("Put ", test.id), doText(p, c).errno, api.OK)
		want(t, p, second{count: 2, rows: [maxFrames]row{{there: true, id: test.id, held: "x", mark: true}}})
		wantGet(t, p, test.id, "x")
	}
}

func TestPutOfAPageThatIsThere(t *testing.T) {
	p := holding(t, 3, 5, 7)
	for _, id := range []int{5, 7} {
		wantRefused(t, p, call{name: "Put", id: id, x: "other"}, api.ErrExists)
		wantGet(t, p, id, name(id))
	}
	wantErrno(t, "Set", p.Set(5, "x", 9), api.OK)
	wantErrno(t, "Fix", p.Fix(5), api.OK)
	wantRefused(t, p, call{name: "Put", id: 5, x: "other"}, api.ErrExists)
}

// A page that is there, without a mark, doesn't get one by a Put that is refused.
func TestPutThatIsRefusedMarksNothing(t *testing.T) {
	p := unmarked(t, 5, 7)
	wantRefused(t, p, call{name: "Put", id: 5, x: "other"}, api.ErrExists)
	wantRefused(t, p, call{name: "Put", id: 6, x: "other"}, api.ErrPool)
	wantRefused(t, p, call{name: "Put", id: -1, x: "other"}, api.ErrArg)
	wantVictims(t, p, 5, 7)
}

func TestWhichErrorOfPutIsFirst(t *testing.T) {
	full, room, fixed := holding(t, 2, 5, 7), holding(t, 3, 5, 7), holding(t, 2, 5, 7)
	for _, id := range []int{5, 7} {
		wantErrno(t, "Fix", fixed.Fix(id), api.OK)
	}
	for _, p := range []*Pool[string]{full, room, fixed} {
		for _, id := range []int{math.MinInt, -1, maxPages, maxPages + 5, math.MaxInt} {
			wantRefused(t, p, call{name: "Put", id: id}, api.ErrArg)
		}
		for _, id := range []int{5, 7} {
			wantRefused(t, p, call{name: "Put", id: id}, api.ErrExists)
		}
	}
	for _, p := range []*Pool[string]{full, fixed} {
		for _, id := range []int{0, 6, maxPages - 1} {
			wantRefused(t, p, call{name: "Put", id: id}, api.ErrPool)
		}
	}
	wantErrno(t, "Put", room.Put(6, "p6"), api.OK)
}

func TestPutIntoTheFirstEmptyFrame(t *testing.T) {
	ids := []int{9, 2, 30, 4}
	for a := range ids {
		for b := range a {
			p := holding(t, 4, ids...)
			wanted := kept(p)
			wantErrno(t, "Drop", p.Drop(ids[a]), api.OK)
			wantErrno(t, "Drop", p.Drop(ids[b]), api.OK)
			wantErrno(t, "Put", p.Put(20, "new"), api.OK)
			wanted.rows[a] = row{}
			wanted.rows[b] = row{there: true, id: 20, held: "new", mark: true}
			want(t, p, wanted)
			wantErrno(t, "Put", p.Put(ids[b], "again"), api.OK)
			wanted.rows[a] = row{there: true, id: ids[b], held: "again", mark: true}
			want(t, p, wanted)
			wantRefused(t, p, call{name: "Put", id: 21}, api.ErrPool)
		}
	}
}

// The hand plays no part in where a page is put.
func TestPutLeavesTheHand(t *testing.T) {
	p := unmarked(t, 5, 7, 3)
	wantVictims(t, p, 5, 7)
	wantErrno(t, "Drop", p.Drop(5), api.OK)
	wantErrno(t, "Put", p.Put(8, "p8"), api.OK)
	s := kept(p)
	if s.hand != 2 || s.rows[0].id != 8 || !s.rows[0].mark {
		t.Errorf("behind Drop and Put: %v", s)
	}
	wantVictims(t, p, 3, 7, 3, 8)
}

// What a page had ahead of a Drop is gone: it comes back marked, without fixes
// and clean.
func TestPutIsFresh(t *testing.T) {
	p := unmarked(t, 5, 7)
	wantErrno(t, "Set", p.Set(5, "x", 12), api.OK)
	wantErrno(t, "Drop", p.Drop(5), api.OK)
	wantErrno(t, "Put", p.Put(5, "y"), api.OK)
	if rec, dirty := p.Rec(5); rec != 0 || dirty {
		t.Errorf("Rec of a page that was put anew: %d, %v", rec, dirty)
	}
	wantRefused(t, p, call{name: "Unfix", id: 5}, api.ErrState)
	wantVictims(t, p, 7)
	wantGet(t, p, 5, "y")
}

// P11.2: Set, Clean.

func TestSet(t *testing.T) {
	tests := []struct {
		recs  []uint64
		since uint64
	}{
		{[]uint64{0}, 0},
		{[]uint64{1}, 1},
		{[]uint64{0, 0}, 0},
		{[]uint64{0, 12}, 12},
		{[]uint64{12, 0}, 12},
		{[]uint64{12, 15}, 12},
		{[]uint64{15, 12}, 15},
		{[]uint64{12, 12, 0, 1, 99}, 12},
		{[]uint64{api.MaxLSN}, api.MaxLSN},
		{[]uint64{1 << 32, 1}, 1 << 32},
		{[]uint64{math.MaxUint64, 1}, math.MaxUint64},
	}
	for _, test := range tests {
		p := holding(t, 3, 9, 5, 7)
		wanted := kept(p)
		for i, rec := range test.recs {
			x := fmt.Sprint("x", i)
			wantErrno(t, fmt.Sprint("Set with ", rec), p.Set(5, x, rec), api.OK)
			wanted.rows[1].held = x
		}
		wanted.rows[1].dirty, wanted.rows[1].since = test.since != 0, test.since
		want(t, p, wanted)
		wantErrno(t, "Clean", p.Clean(5), api.OK)
		wanted.rows[1].dirty, wanted.rows[1].since = false, 0
		want(t, p, wanted)
		wantErrno(t, "Clean of what is clean", p.Clean(5), api.OK)
		want(t, p, wanted)
		wantErrno(t, "Set", p.Set(5, "", 77), api.OK)
		wanted.rows[1].held, wanted.rows[1].dirty, wanted.rows[1].since = "", true, 77
		want(t, p, wanted)
	}
}

func TestSetLeavesMarksAndFixes(t *testing.T) {
	p := unmarked(t, 5, 7)
	wantErrno(t, "Fix", p.Fix(7), api.OK)
	wanted := kept(p)
	for i, id := range []int{5, 7} {
		wantErrno(t, "Set", p.Set(id, "x", 3), api.OK)
		wanted.rows[i].held, wanted.rows[i].dirty, wanted.rows[i].since = "x", true, 3
		want(t, p, wanted)
	}
	wantErrno(t, "Clean", p.Clean(7), api.OK)
	wanted.rows[1].dirty, wanted.rows[1].since = false, 0
	want(t, p, wanted)
}

// P11.2: pages that aren't there.

func TestCallsOfAPageThatIsNotThere(t *testing.T) {
	busy := holding(t, 3, 5, 7)
	wantErrno(t, "Set", busy.Set(5, "x", 4), api.OK)
	wantErrno(t, "Fix", busy.Fix(7), api.OK)
	for _, p := range []*Pool[string]{New[string](1), holding(t, 3, 5, 7), holding(t, 2, 5, 7), unmarked(t, 5, 7), busy} {
		for _, id := range notThere {
			for _, c := range []string{"Set", "Clean", "Fix", "Unfix", "Drop"} {
				wantRefused(t, p, call{c, id, "x", 0}, api.ErrNone)
				wantRefused(t, p, call{c, id, "x", 9}, api.ErrNone)
			}
			if rec, ok := p.Rec(id); rec != 0 || ok {
				t.Errorf("Rec(%d) of what isn't there: %d, %v", id, rec, ok)
			}
		}
	}
}

// A page that was dropped isn't there any more, and an empty frame is not the
// page 0.
func TestCallsOfAPageThatWasDropped(t *testing.T) {
	for _, id := range []int{0, 5} {
		p := holding(t, 2, id, 7)
		wantErrno(t, "Set", p.Set(id, "x", 4), api.OK)
		wantErrno(t, "Drop", p.Drop(id), api.OK)
		for _, c := range []string{"Set", "Clean", "Fix", "Unfix", "Drop"} {
			wantRefused(t, p, call{c, id, "x", 9}, api.ErrNone)
		}
		wantNoGet(t, p, id)
		wantPages(t, p, 7)
	}
}

// P11.2: Fix, Unfix, Drop.

func TestFixAndUnfix(t *testing.T) {
	p := holding(t, 3, 9, 5, 7)
	wanted := kept(p)
	for range 300 {
		wantErrno(t, "Fix", p.Fix(5), api.OK)
		wanted.rows[1].fixes++
		wantRefused(t, p, call{name: "Drop", id: 5}, api.ErrState)
	}
	want(t, p, wanted)
	for range 300 {
		wantRefused(t, p, call{name: "Drop", id: 5}, api.ErrState)
		wantErrno(t, "Unfix", p.Unfix(5), api.OK)
		wanted.rows[1].fixes--
		want(t, p, wanted)
	}
	wantRefused(t, p, call{name: "Unfix", id: 5}, api.ErrState)
	wantErrno(t, "Drop", p.Drop(5), api.OK)
	wanted.rows[1] = row{}
	want(t, p, wanted)
}

func TestUnfixWithoutAFix(t *testing.T) {
	p := holding(t, 2, 5, 7)
	wantErrno(t, "Fix", p.Fix(7), api.OK)
	wantRefused(t, p, call{name: "Unfix", id: 5}, api.ErrState)
	wantErrno(t, "Unfix", p.Unfix(7), api.OK)
	wantRefused(t, p, call{name: "Unfix", id: 7}, api.ErrState)
}

func TestFixLeavesTheRest(t *testing.T) {
	p := holding(t, 2, 5, 7)
	wantErrno(t, "Set", p.Set(5, "x", 4), api.OK)
	wanted := kept(p)
	wantErrno(t, "Fix", p.Fix(5), api.OK)
	wantErrno(t, "Set of a fixed one", p.Set(5, "y", 8), api.OK)
	wantErrno(t, "Clean of a fixed one", p.Clean(5), api.OK)
	wantGet(t, p, 5, "y")
	wanted.rows[0] = row{there: true, id: 5, held: "y", mark: true, fixes: 1}
	want(t, p, wanted)
}

// Drop asks for fixes alone: a page that is dirty, or marked, goes.
func TestDrop(t *testing.T) {
	ids := []int{9, 5, 31, 0}
	for i, id := range ids {
		for _, rec := range []uint64{0, 6} {
			p := holding(t, 4, ids...)
			wantErrno(t, "Set", p.Set(id, "x", rec), api.OK)
			wanted := kept(p)
			wantErrno(t, "Drop", p.Drop(id), api.OK)
			wanted.rows[i] = row{}
			want(t, p, wanted)
			if p.Full() {
				t.Error("Full behind a Drop")
			}
		}
	}
}

func TestDropOfEachPage(t *testing.T) {
	ids := rand.New(rand.NewSource(1)).Perm(maxPages)[:maxFrames]
	p := holding(t, maxFrames, ids...)
	wanted := kept(p)
	for i, id := range ids {
		wantErrno(t, "Drop", p.Drop(id), api.OK)
		wanted.rows[i] = row{}
		want(t, p, wanted)
	}
	wantPages(t, p)
}

// Drop leaves the hand where it is, though its frame is empty now.
func TestDropUnderTheHand(t *testing.T) {
	p := unmarked(t, 5, 7, 3)
	wantVictims(t, p, 5)
	wantErrno(t, "Drop", p.Drop(7), api.OK)
	if s := kept(p); s.hand != 1 {
		t.Errorf("the hand behind a Drop: %v", s)
	}
	wantVictims(t, p, 3, 5, 3, 5)
}

// P11.3: Victim.

func TestVictimOfAPoolWithoutAPage(t *testing.T) {
	for frames := range maxFrames + 1 {
		wantRefused(t, New[string](frames), call{name: "Victim"}, api.ErrPool)
	}
	p := unmarked(t, 5, 7, 3)
	wantVictims(t, p, 5, 7)
	for _, id := range []int{3, 5, 7} {
		wantErrno(t, "Drop", p.Drop(id), api.OK)
	}
	wantRefused(t, p, call{name: "Victim"}, api.ErrPool)
	if s := kept(p); s.hand != 2 {
		t.Errorf("the hand of a pool that was emptied: %v", s)
	}
}

// With fixes on every page neither a mark nor the hand is touched, wherever it
// stands, and the next Victim goes on from there.
func TestVictimWithFixesOnEveryPage(t *testing.T) {
	ids := []int{5, 7, 3}
	for hand := range ids {
		for marks := range 8 {
			p := unmarked(t, ids...)
			wantVictims(t, p, ids[:hand]...)
			for i, id := range ids {
				wantErrno(t, "Fix", p.Fix(id), api.OK)
				if marks>>i&1 == 1 {
					wantGet(t, p, id, name(id))
				}
			}
			wantRefused(t, p, call{name: "Victim"}, api.ErrPool)
			wantRefused(t, p, call{name: "Victim"}, api.ErrPool)
			wantErrno(t, "Unfix", p.Unfix(7), api.OK)
			wantVictims(t, p, 7)
			s := kept(p)
			if s.rows[0].mark != (marks&1 == 1) || s.rows[1].mark || s.rows[2].mark != (marks&4 == 4) || s.hand != 2 {
				t.Errorf("hand %d, marks %d: %v", hand, marks, s)
			}
		}
	}
}

func TestVictimWithFixesAndEmptyFrames(t *testing.T) {
	p := holding(t, 4, 5, 7, 3)
	wantErrno(t, "Drop", p.Drop(7), api.OK)
	wantErrno(t, "Fix", p.Fix(5), api.OK)
	wantErrno(t, "Fix", p.Fix(3), api.OK)
	wantRefused(t, p, call{name: "Victim"}, api.ErrPool)
	wantErrno(t, "Unfix", p.Unfix(3), api.OK)
	wantVictims(t, p, 3, 3)
	if s := kept(p); s.hand != 3 || !s.rows[0].mark {
		t.Errorf("behind Victim: %v", s)
	}
}

// All hands, all marks, all fixes, all empty frames of three: worked out by the
// rounds that the chapter tells.
func TestVictimOfEachPool(t *testing.T) {
	ids := []int{5, 7, 3}
	for way := range 3 * 64 {
		hand, kinds := way%3, way/3
		p := unmarked(t, ids...)
		wantVictims(t, p, ids[:hand]...)
		for i, id := range ids {
			switch kinds >> (2 * i) & 3 {
			case 1:
				wantGet(t, p, id, name(id))
			case 2:
				wantErrno(t, "Fix", p.Fix(id), api.OK)
			case 3:
				wantErrno(t, "Drop", p.Drop(id), api.OK)
			}
		}
		s := kept(p)
		for range 4 {
			id, errno := s.victim()
			if got, e := p.Victim(); got != id || e != errno {
				t.Errorf("hand %d, kinds %b: %d, %d, not %d, %d", hand, kinds, got, e, id, errno)
			}
			want(t, p, s)
		}
	}
}

func TestVictimWithMarks(t *testing.T) {
	tests := []struct {
		marked  []int
		victims []int
	}{
		{nil, []int{5, 7, 3, 9, 5, 7, 3, 9, 5}},
		{[]int{5}, []int{7, 3, 9, 5, 7}},
		{[]int{5, 7}, []int{3, 9, 5, 7, 3}},
		{[]int{7, 9}, []int{5, 3, 5, 7, 3, 9}},
		{[]int{5, 7, 3}, []int{9, 5, 7, 3, 9}},
		{[]int{9}, []int{5, 7, 3, 5, 7, 3, 9}},
		{[]int{5, 7, 3, 9}, []int{5, 7, 3, 9, 5}},
	}
	for _, test := range tests {
		p := unmarked(t, 5, 7, 3, 9)
		for _, id := range test.marked {
			wantGet(t, p, id, name(id))
		}
		wantVictims(t, p, test.victims...)
	}
}

func TestVictimRoundTheLastFrame(t *testing.T) {
	ids := rand.New(rand.NewSource(2)).Perm(maxPages)[:maxFrames]
	p := holding(t, maxFrames, ids...)
	for range 3 {
		wantVictims(t, p, ids...)
		if s := kept(p); s.hand != 0 {
			t.Errorf("the hand behind the last frame: %d", s.hand)
		}
	}
	one := holding(t, 1, 5)
	wantVictims(t, one, 5, 5, 5)
	wantErrno(t, "Fix", one.Fix(5), api.OK)
	wantRefused(t, one, call{name: "Victim"}, api.ErrPool)
}

// The mark of a page with fixes stays, for it is passed.
func TestVictimLeavesMarksOfFixedPages(t *testing.T) {
	p := unmarked(t, 5, 7, 3)
	wantGet(t, p, 7, "p7")
	wantErrno(t, "Fix", p.Fix(7), api.OK)
	wantVictims(t, p, 5, 3, 5)
	wantErrno(t, "Unfix", p.Unfix(7), api.OK)
	wantVictims(t, p, 3, 5, 7)
}

func TestVictimStaysWhereItIs(t *testing.T) {
	p := unmarked(t, 5, 7)
	wantErrno(t, "Set", p.Set(5, "x", 4), api.OK)
	wanted := kept(p)
	wantVictims(t, p, 5)
	wanted.hand = 1
	want(t, p, wanted)
	wantGet(t, p, 5, "x")
	if !p.Full() {
		t.Error("Victim emptied a frame")
	}
}

// P11.4: Rec, Dirty, Pages, Full.

func TestDirtyAndPagesRise(t *testing.T) {
	chance := rand.New(rand.NewSource(3))
	for range 50 {
		ids := chance.Perm(maxPages)[:maxFrames]
		p := holding(t, maxFrames, ids...)
		wanted := kept(p)
		for i, id := range ids {
			if rec := uint64(chance.Intn(3)); rec > 0 {
				wantErrno(t, "Set", p.Set(id, "x", rec), api.OK)
				wanted.rows[i].held, wanted.rows[i].dirty, wanted.rows[i].since = "x", true, rec
			}
		}
		want(t, p, wanted)
		if got := p.Pages(); !slices.IsSorted(got) || len(got) != maxFrames {
			t.Errorf("Pages: %v", got)
		}
	}
}

func TestTheEdgesOfWhatIsTold(t *testing.T) {
	p := holding(t, 3, maxPages-1, 0)
	wantErrno(t, "Set", p.Set(maxPages-1, "x", math.MaxUint64), api.OK)
	wantErrno(t, "Set", p.Set(0, "x", 1), api.OK)
	rows := []api.DirtyRow{{Page: 0, Rec: 1}, {Page: maxPages - 1, Rec: math.MaxUint64}}
	if got := p.Dirty(); !slices.Equal(got, rows) {
		t.Errorf("Dirty: %v", got)
	}
	wantPages(t, p, 0, maxPages-1)
	if p.Full() {
		t.Error("Full with an empty frame")
	}
	wantErrno(t, "Put", p.Put(4, ""), api.OK)
	if !p.Full() {
		t.Error("not Full without an empty frame")
	}
}

// P11.1 to P11.4: whatever a pool was told, every call does what it does of the
// second pool.

// reached goes to all pools that the calls can come to, as far as the second
// pool lets them, and does every call on each of them.
func reached(t *testing.T, frames int, calls []call, lets func(second) bool) int {
	type met struct {
		pool   *Pool[string]
		second second
	}
	first := met{New[string](frames), second{count: frames}}
	seen := map[second]bool{first.second: true}
	for todo := []met{first}; len(todo) > 0 && !t.Failed(); todo = todo[1:] {
		for _, c := range calls {
			from := todo[0]
			p := &Pool[string]{frames: slices.Clone(from.pool.frames), hand: from.pool.hand}
			s := from.second
			if got, wanted := doText(p, c), s.do(c); got != wanted {
				t.Errorf("%v of %v: %v, not %v", c, from.second, got, wanted)
			}
			want(t, p, s)
			if !seen[s] && lets(s) {
				seen[s] = true
				todo = append(todo, met{p, s})
			}
		}
	}
	return len(seen)
}

func callsOf(ids []int, recs ...uint64) []call {
	calls := []call{{name: "Victim"}}
	for _, id := range ids {
		for _, c := range []string{"Get", "Put", "Clean", "Fix", "Unfix", "Drop"} {
			calls = append(calls, call{name: c, id: id})
		}
		for _, rec := range recs {
			calls = append(calls, call{name: "Set", id: id, rec: rec})
		}
	}
	return calls
}

func fewFixes(most int) func(second) bool {
	return func(s second) bool {
		return !slices.ContainsFunc(s.rows[:], func(r row) bool { return r.fixes > most })
	}
}

func TestAllPoolsOfTwoFrames(t *testing.T) {
	n := reached(t, 2, callsOf([]int{0, 1, 31, 32}, 0, 1, 2), fewFixes(1))
	// Two frames, each empty or with one of three pages, marked or not, fixed or
	// not, and clean or dirty since one of two numbers, no page twice; the hand.
	if most := 2 * (1 + 2*3*12 + 3*2*12*12); n < most/2 || n > most {
		t.Errorf("%d pools of at most %d", n, most)
	}
}

func TestAllPoolsOfThreeFrames(t *testing.T) {
	n := reached(t, 3, callsOf([]int{0, 5, 9, 31}), fewFixes(1))
	if most := 3 * (1 + 3*4*4 + 3*12*16 + 24*64); n < most/2 || n > most {
		t.Errorf("%d pools of at most %d", n, most)
	}
}

// someCalls has more of Put than of Drop, so that the pool fills, and more of
// Unfix than of Fix, so that pages go on being free to go.
func someCalls(chance *rand.Rand, n int) []call {
	names := []string{"Get", "Get", "Put", "Put", "Put", "Set", "Set", "Clean", "Fix", "Unfix", "Unfix", "Drop", "Victim", "Victim", "Victim"}
	calls := make([]call, n)
	for i := range calls {
		calls[i] = call{
			name: names[chance.Intn(len(names))],
			id:   chance.Intn(maxPages+2) - 1,
			x:    fmt.Sprint("x", chance.Intn(1000)),
			rec:  uint64(chance.Intn(4)),
		}
	}
	return calls
}

func TestLongWays(t *testing.T) {
	for seed := range int64(34) {
		frames := int(seed%17 + 1)
		p := New[string](frames)
		s := second{count: min(frames, maxFrames)}
		for _, c := range someCalls(rand.New(rand.NewSource(seed)), 1500) {
			if got, wanted := doText(p, c), s.do(c); got != wanted {
				t.Fatalf("%v: %v, not %v", c, got, wanted)
			}
			want(t, p, s)
		}
	}
}

// P11.5: what is held plays no part.

// goes goes a way with a pool that holds anything, beside the second pool.
func goes[T any](t *testing.T, calls []call, from func(string) T, text func(T) string) {
	t.Helper()
	p := New[T](7)
	s := second{count: 7}
	for _, c := range calls {
		wanted := s.do(c)
		if c.name == "Get" {
			wanted.held = ""
			if wanted.ok {
				wanted.held = text(from(s.at(c.id).held))
			}
		}
		got := do(p, c, from, text)
		if c.name == "Get" && !got.ok {
			var none T
			if got.held != text(none) {
				t.Errorf("%v: %q beside false", c, got.held)
			}
			got.held = ""
		}
		if got != wanted {
			t.Fatalf("%T, %v: %v, not %v", p, c, got, wanted)
		}
		wantTold(t, p, s)
	}
}

func TestWhatIsHeldPlaysNoPart(t *testing.T) {
	for seed := range int64(4) {
		calls := someCalls(rand.New(rand.NewSource(seed)), 1500)
		goes(t, calls, asIs, asIs)
		goes(t, calls, func(x string) int { return len(x) }, func(n int) string { return fmt.Sprint(n) })
		goes(t, calls, func(x string) []byte { return []byte(x) }, func(b []byte) string { return string(b) })
		goes(t, calls, func(string) struct{} { return struct{}{} }, func(struct{}) string { return "" })
		goes(t, calls, func(string) float64 { return math.NaN() }, func(f float64) string { return fmt.Sprint(f) })
		goes(t, calls, func(string) *int { return nil }, func(p *int) string { return fmt.Sprint(p == nil) })
		goes(t, calls, func(x string) func() string { return func() string { return x } }, textOf)
		goes(t, calls, func(x string) any { return []string{x} }, func(x any) string { return fmt.Sprint(x) })
		goes(t, calls, pageOf, func(p api.Page) string { return p.Cells[0].Value })
	}
}

func textOf(f func() string) string {
	if f == nil {
		return ""
	}
	return f()
}

func pageOf(x string) api.Page {
	return api.Page{Cells: [api.Slots]api.Cell{{Used: true, Value: x}}}
}

// P11.5: the nil pool and the zero one.

func TestNilAndZero(t *testing.T) {
	var none *Pool[string]
	var zero Pool[string]
	for _, p := range []*Pool[string]{none, &zero} {
		for range 2 {
			for _, id := range append(notThere, 5, 7) {
				if x, ok := p.Get(id); x != "" || ok {
					t.Errorf("Get(%d): %q, %v", id, x, ok)
				}
				wanted := api.ErrPool
				if id < 0 || id >= maxPages {
					wanted = api.ErrArg
				}
				wantErrno(t, fmt.Sprint("Put ", id), p.Put(id, "x"), wanted)
				wantErrno(t, "Set", p.Set(id, "x", 0), api.ErrNone)
				wantErrno(t, "Set", p.Set(id, "x", 3), api.ErrNone)
				wantErrno(t, "Clean", p.Clean(id), api.ErrNone)
				wantErrno(t, "Fix", p.Fix(id), api.ErrNone)
				wantErrno(t, "Unfix", p.Unfix(id), api.ErrNone)
				wantErrno(t, "Drop", p.Drop(id), api.ErrNone)
				if rec, ok := p.Rec(id); rec != 0 || ok {
					t.Errorf("Rec(%d): %d, %v", id, rec, ok)
				}
			}
			if id, errno := p.Victim(); id != 0 || errno != api.ErrPool {
				t.Errorf("Victim: %d, %d", id, errno)
			}
			if len(p.Dirty()) != 0 || len(p.Pages()) != 0 || !p.Full() {
				t.Errorf("Dirty %v, Pages %v, Full %v", p.Dirty(), p.Pages(), p.Full())
			}
		}
	}
}

// R3: what comes out shares nothing with what is kept.

func TestWhatComesOutIsNew(t *testing.T) {
	p := holding(t, 3, 5, 7, 3)
	for _, id := range []int{5, 7, 3} {
		wantErrno(t, "Set", p.Set(id, "x", uint64(id)), api.OK)
	}
	before := kept(p)
	pages, dirty := p.Pages(), p.Dirty()
	for i := range pages[:cap(pages)] {
		pages[:cap(pages)][i] = 99
	}
	for i := range dirty[:cap(dirty)] {
		dirty[:cap(dirty)][i] = api.DirtyRow{Page: 99, Rec: 99}
	}
	want(t, p, before)

	pages, dirty = p.Pages(), p.Dirty()
	wantErrno(t, "Clean", p.Clean(5), api.OK)
	wantErrno(t, "Drop", p.Drop(7), api.OK)
	wantErrno(t, "Put", p.Put(1, ""), api.OK)
	p.Pages()
	p.Dirty()
	if !slices.Equal(pages, []int{3, 5, 7}) || !slices.Equal(dirty, []api.DirtyRow{{Page: 3, Rec: 3}, {Page: 5, Rec: 5}, {Page: 7, Rec: 7}}) {
		t.Errorf("what was told has changed: %v, %v", pages, dirty)
	}
}

// A page is held as a value: neither the one handed in nor the one that came
// out is that which is kept.
func TestPagesAreHeldAsValues(t *testing.T) {
	p := New[api.Page](2)
	x := pageOf("a")
	wantErrno(t, "Put", p.Put(5, x), api.OK)
	x.Cells[0].Value = "z"
	got, _ := p.Get(5)
	if got != pageOf("a") {
		t.Errorf("Get behind Put: %#v", got)
	}
	got.Cells[0].Value = "z"
	x = pageOf("b")
	wantErrno(t, "Set", p.Set(5, x, 0), api.OK)
	x.LSN = 9
	if got, _ = p.Get(5); got != pageOf("b") {
		t.Errorf("Get behind Set: %#v", got)
	}
	got.LSN = 9
	if got, _ = p.Get(5); got != pageOf("b") {
		t.Errorf("Get behind Get: %#v", got)
	}
}

// R6: pools are apart, and the same way comes to the same.

func TestPoolsAreApart(t *testing.T) {
	a, b := holding(t, 2, 5, 7), holding(t, 2, 5, 7)
	before := kept(b)
	wantErrno(t, "Set", a.Set(5, "x", 3), api.OK)
	wantErrno(t, "Fix", a.Fix(7), api.OK)
	wantVictims(t, a, 5)
	wantErrno(t, "Drop", a.Drop(5), api.OK)
	want(t, b, before)
	wantVictims(t, b, 5, 7)
}

func TestTheSameWayTwice(t *testing.T) {
	a, b := New[string](5), New[string](5)
	for _, c := range someCalls(rand.New(rand.NewSource(7)), 3000) {
		if one, two := doText(a, c), doText(b, c); one != two {
			t.Fatalf("%v: %v and %v", c, one, two)
		}
	}
	want(t, a, kept(b))
}
