package lsn

import (
	"math"
	"math/rand"
	"slices"
	"testing"

	"quayside/api"
)

const (
	topLSN = api.TopLSN
	maxLSN = api.MaxLSN
)

// edges are written in their order: ordinary numbers, and those at, below and
// above each border that a clock has.
var edges = []uint64{
	0, 1, 7, topLSN - 1, topLSN, topLSN + 1, topLSN + 2,
	maxLSN - 1, maxLSN, maxLSN + 1, 1 << 63, math.MaxUint64,
}

// lastOf is the last number that the document asks for of a clock that was
// told so many numbers: the greatest one, and not above maxLSN.
func lastOf(told ...uint64) uint64 {
	greatest := slices.Max(told)
	if greatest > maxLSN {
		return maxLSN
	}
	return greatest
}

func wantLast(t *testing.T, c *Clock, want uint64) {
	t.Helper()
	for range 2 {
		if got := c.Last(); got != want {
			t.Errorf("Last: %d, not %d", got, want)
		}
	}
}

func wantNext(t *testing.T, c *Clock, floor uint64, spare bool, want uint64) {
	t.Helper()
	if got, errno := c.Next(floor, spare); got != want || errno != api.OK {
		t.Errorf("Next(%d, %t): %d, %d, not %d", floor, spare, got, errno, want)
	}
	wantLast(t, c, want)
}

// wantFull asks that a Next is ErrFull, and that it leaves the last number.
func wantFull(t *testing.T, c *Clock, floor uint64, spare bool) {
	t.Helper()
	last := c.Last()
	if got, errno := c.Next(floor, spare); got != 0 || errno != api.ErrFull {
		t.Errorf("Next(%d, %t) behind %d: %d, %d, not ErrFull", floor, spare, last, got, errno)
	}
	wantLast(t, c, last)
}

// P3.1: the chapter's examples.

func TestExamples(t *testing.T) {
	c := New(5)
	wantNext(t, c, 3, false, 6)
	wantNext(t, c, 10, false, 11)
	c.See(20)
	wantNext(t, c, 0, false, 21)
	c = New(topLSN)
	wantFull(t, c, 0, false)
	wantNext(t, c, 0, true, topLSN+1)
}

// P3.1: New, See and Last.

func TestNewStartsWithTheNumber(t *testing.T) {
	tests := []struct{ start, want uint64 }{
		{0, 0},
		{1, 1},
		{5, 5},
		{topLSN - 1, topLSN - 1},
		{topLSN, topLSN},
		{topLSN + 1, topLSN + 1},
		{maxLSN - 1, maxLSN - 1},
		{maxLSN, maxLSN},
		{maxLSN + 1, maxLSN},
		{1 << 63, maxLSN},
		{math.MaxUint64, maxLSN},
	}
	for _, test := range tests {
		wantLast(t, New(test.start), test.want)
	}
}

func TestSeeKeepsTheGreaterNumber(t *testing.T) {
	for _, start := range edges {
		for _, l := range edges {
			c := New(start)
			c.See(l)
			wantLast(t, c, lastOf(start, l))
			c.See(l)
			c.See(0)
			wantLast(t, c, lastOf(start, l))
		}
	}
}

func TestSeeOfALesserNumberLeavesTheLast(t *testing.T) {
	c := New(20)
	for _, l := range []uint64{0, 7, 19, 20} {
		c.See(l)
		wantLast(t, c, 20)
	}
	c.See(21)
	wantLast(t, c, 21)
}

func TestSeeBehindNext(t *testing.T) {
	c := New(5)
	wantNext(t, c, 9, false, 10)
	c.See(10)
	wantLast(t, c, 10)
	c.See(9)
	wantNext(t, c, 0, false, 11)
	c.See(12)
	wantNext(t, c, 0, false, 13)
}

// P3.1: Next.

func TestNextIsOneMoreThanTheGreaterOfLastAndFloor(t *testing.T) {
	tests := []struct {
		last, floor uint64
		want        uint64
	}{
		{0, 0, 1},
		{0, 1, 2},
		{1, 0, 2},
		{5, 3, 6},
		{5, 4, 6},
		{5, 5, 6},
		{5, 6, 7},
		{5, 1000, 1001},
		{0, topLSN - 2, topLSN - 1},
		{0, topLSN - 1, topLSN},
		{topLSN - 1, 0, topLSN},
		{topLSN - 1, topLSN - 1, topLSN},
	}
	for _, test := range tests {
		for _, spare := range []bool{false, true} {
			wantNext(t, New(test.last), test.floor, spare, test.want)
		}
	}
}

func TestSpareNumbersAreGivenOnlyWithSpare(t *testing.T) {
	for _, n := range []uint64{topLSN, topLSN + 1, topLSN + 2, maxLSN - 2, maxLSN - 1} {
		for _, other := range []uint64{0, topLSN - 1, topLSN, n} {
			wantFull(t, New(n), other, false)
			wantFull(t, New(other), n, false)
			wantNext(t, New(n), other, true, n+1)
			wantNext(t, New(other), n, true, n+1)
		}
	}
}

func TestNothingIsGivenFromTheGreatestNumberOn(t *testing.T) {
	for _, n := range []uint64{maxLSN, maxLSN + 1, maxLSN + 2, 1 << 63, math.MaxUint64 - 1, math.MaxUint64} {
		for _, other := range edges {
			for _, spare := range []bool{false, true} {
				wantFull(t, New(n), other, spare)
				wantFull(t, New(other), n, spare)
				c := New(other)
				c.See(n)
				wantFull(t, c, 0, spare)
			}
		}
	}
}

func TestNextAtTheTop(t *testing.T) {
	c := New(topLSN - 2)
	wantNext(t, c, 0, false, topLSN-1)
	wantNext(t, c, 0, false, topLSN)
	wantFull(t, c, 0, false)
	wantNext(t, c, 0, true, topLSN+1)
	wantFull(t, c, 0, false)
}

func TestAllSpareNumbersAreGiven(t *testing.T) {
	c := New(topLSN)
	for want := topLSN + 1; want <= maxLSN; want++ {
		if got, errno := c.Next(0, true); got != want || errno != api.OK {
			t.Fatalf("Next(0, true): %d, %d, not %d", got, errno, want)
		}
	}
	wantFull(t, c, 0, true)
	wantFull(t, c, 0, false)
	wantLast(t, c, maxLSN)
}

// A floor that is refused isn't seen: the clock goes on as if never asked.
func TestNextThatIsFullChangesNothing(t *testing.T) {
	for _, start := range edges {
		for _, floor := range edges {
			for _, spare := range []bool{false, true} {
				c, twin := New(start), New(start)
				if _, errno := c.Next(floor, spare); errno == api.OK {
					continue
				}
				wantLast(t, c, twin.Last())
				got, errno := c.Next(0, true)
				want, wantErrno := twin.Next(0, true)
				if got != want || errno != wantErrno {
					t.Errorf("Next of %d behind a refused floor %d: %d, %d, not %d, %d", start, floor, got, errno, want, wantErrno)
				}
			}
		}
	}
	c := New(5)
	wantFull(t, c, topLSN, false)
	wantFull(t, c, maxLSN, true)
	wantFull(t, c, math.MaxUint64, true)
	wantNext(t, c, 0, false, 6)
}

// P3.1: the zero Clock and a nil one.

func TestTheZeroClockIsAClock(t *testing.T) {
	var c Clock
	wantLast(t, &c, 0)
	wantNext(t, &c, 0, false, 1)
	wantNext(t, &c, 0, true, 2)
	for _, n := range edges {
		seen := new(Clock)
		seen.See(n)
		wantLast(t, seen, lastOf(n))
	}
	wantNext(t, &Clock{}, topLSN-1, false, topLSN)
	wantNext(t, &Clock{}, maxLSN-1, true, maxLSN)
	wantFull(t, &Clock{}, topLSN, false)
	wantFull(t, &Clock{}, maxLSN, true)
	wantFull(t, &Clock{}, math.MaxUint64, true)
}

func TestANilClock(t *testing.T) {
	var c *Clock
	for _, n := range edges {
		wantLast(t, c, 0)
		c.See(n)
		wantLast(t, c, 0)
		for _, spare := range []bool{false, true} {
			if got, errno := c.Next(n, spare); got != 0 || errno != api.ErrArg {
				t.Errorf("Next(%d, %t) of a nil Clock: %d, %d", n, spare, got, errno)
			}
		}
	}
}

// P3.2: Before.

func TestBeforeExamples(t *testing.T) {
	tests := []struct {
		a    uint64
		i    int
		b    uint64
		j    int
		want bool
	}{
		{3, 1, 3, 2, true},
		{3, 2, 3, 1, false},
		{3, 2, 3, 2, false},
		{2, 9, 3, 0, true},
		{3, 0, 2, 9, false},
		{2, 1, 3, 1, true},
		{3, 1, 2, 1, false},
		{3, -1, 3, 0, true},
		{3, math.MinInt, 3, math.MaxInt, true},
		{3, math.MaxInt, 3, math.MinInt, false},
		{0, 0, math.MaxUint64, 0, true},
		{math.MaxUint64, 0, 0, 0, false},
		{math.MaxUint64, 0, math.MaxUint64, 1, true},
	}
	for _, test := range tests {
		if got := Before(test.a, test.i, test.b, test.j); got != test.want {
			t.Errorf("Before(%d, %d, %d, %d): %t", test.a, test.i, test.b, test.j, got)
		}
	}
}

// Numbers and nodes are written down here in their order, so that one stands
// before another just where it is written ahead of it.
func TestBeforeIsOneOrderOfAll(t *testing.T) {
	type stamp struct {
		number uint64
		node   int
	}
	var all []stamp
	for _, number := range edges {
		for _, node := range []int{math.MinInt, -1, 0, 1, 7, 8, math.MaxInt} {
			all = append(all, stamp{number, node})
		}
	}
	for p, x := range all {
		for q, y := range all {
			if got := Before(x.number, x.node, y.number, y.node); got != (p < q) {
				t.Errorf("Before(%d, %d, %d, %d): %t", x.number, x.node, y.number, y.node, got)
			}
		}
	}
}

// P3.2: Rises.

func TestRisesExamples(t *testing.T) {
	tests := []struct {
		l    []uint64
		want bool
	}{
		{nil, true},
		{[]uint64{}, true},
		{[]uint64{0}, true},
		{[]uint64{7}, true},
		{[]uint64{math.MaxUint64}, true},
		{[]uint64{1, 2}, true},
		{[]uint64{2, 1}, false},
		{[]uint64{1, 1}, false},
		{[]uint64{0, 0}, false},
		{[]uint64{0, math.MaxUint64}, true},
		{[]uint64{math.MaxUint64, 0}, false},
		{[]uint64{1, 5, 9, 10}, true},
		{[]uint64{1, 1, 2, 3}, false},
		{[]uint64{1, 2, 2, 3}, false},
		{[]uint64{1, 2, 3, 3}, false},
		{[]uint64{2, 1, 3, 4}, false},
		{[]uint64{1, 3, 2, 4}, false},
		{[]uint64{1, 2, 4, 3}, false},
		{[]uint64{5, 6, 7, 1}, false},
		{[]uint64{1, 3, 2}, false},
		{edges, true},
	}
	for _, test := range tests {
		if got := Rises(test.l); got != test.want {
			t.Errorf("Rises(%d): %t", test.l, got)
		}
	}
}

func TestRisesOfAllShortLists(t *testing.T) {
	numbers := []uint64{0, 1, 2, maxLSN, math.MaxUint64}
	var check func(l []uint64)
	check = func(l []uint64) {
		// What rises is what sorting and leaving out the doubles don't change.
		sorted := slices.Compact(slices.Sorted(slices.Values(l)))
		if got := Rises(l); got != slices.Equal(sorted, l) {
			t.Errorf("Rises(%d): %t", l, got)
		}
		if len(l) == 5 {
			return
		}
		for _, n := range numbers {
			check(append(slices.Clone(l), n))
		}
	}
	check(nil)
}

func TestRisesOfLongLists(t *testing.T) {
	l := make([]uint64, 1000)
	for i := range l {
		l[i] = uint64(3 * i)
	}
	if !Rises(l) {
		t.Error("a thousand numbers that rise: false")
	}
	for at := 1; at < len(l); at++ {
		for _, n := range []uint64{l[at-1], l[at-1] - 1, 0} {
			other := slices.Clone(l)
			other[at] = n
			if n <= l[at-1] && Rises(other) {
				t.Errorf("a thousand numbers with %d at %d: true", n, at)
			}
		}
	}
}

// R3.

func TestRisesLeavesItsListAndWhatLiesBehind(t *testing.T) {
	for _, whole := range [][]uint64{{1, 2, 3, 1, 9}, {3, 2, 1, 7, 7}, {1, 1, 1, 1}} {
		before := slices.Clone(whole)
		for size := range len(whole) + 1 {
			if got, want := Rises(whole[:size]), Rises(slices.Clone(whole[:size:size])); got != want {
				t.Errorf("what lies behind the first %d of %d plays a part", size, whole)
			}
		}
		if !slices.Equal(whole, before) {
			t.Errorf("Rises made %d of %d", whole, before)
		}
	}
	if !Rises([]uint64{1, 2, 1}[:2]) {
		t.Error("Rises reads behind the list's length")
	}
}

// P3.3.

// watched is a clock with all numbers that it has seen and given.
type watched struct {
	clock       *Clock
	seen, given []uint64
}

func watch(start uint64) *watched {
	return &watched{clock: New(start), seen: []uint64{start}}
}

func (w *watched) see(l uint64) {
	w.clock.See(l)
	w.seen = append(w.seen, l)
}

func (w *watched) next(t *testing.T, floor uint64, spare bool) (uint64, bool) {
	t.Helper()
	n, errno := w.clock.Next(floor, spare)
	if errno != api.OK {
		return 0, false
	}
	if n > maxLSN || !spare && n > topLSN || n <= floor {
		t.Errorf("Next(%d, %t): %d", floor, spare, n)
	}
	if n <= slices.Max(w.seen) {
		t.Errorf("Next gives %d behind having seen %d", n, w.seen)
	}
	w.given = append(w.given, n)
	if !Rises(w.given) {
		t.Errorf("what a clock gives doesn't rise: %d", w.given)
	}
	return n, true
}

// All ways to tell a clock three things of the edges are gone through.
func TestWhatAClockGivesRises(t *testing.T) {
	const told = 3
	kinds := 3 * len(edges)
	ways := kinds * kinds * kinds
	for _, start := range edges {
		for way := range ways {
			w := watch(start)
			for range told {
				n := edges[way%kinds/3]
				switch way % 3 {
				case 0:
					w.see(n)
				case 1:
					w.next(t, n, false)
				case 2:
					w.next(t, n, true)
				}
				way /= kinds
			}
			wantLast(t, w.clock, lastOf(append(w.seen, w.given...)...))
		}
	}
}

func TestANumberSeenIsBelowWhatIsGivenFromThenOn(t *testing.T) {
	for _, start := range edges {
		for _, other := range edges {
			a, b := watch(start), watch(other)
			for range 4 {
				if n, ok := a.next(t, 0, true); ok {
					b.see(n)
				}
				b.next(t, 0, false)
				if n, ok := b.next(t, 0, true); ok {
					a.see(n)
				}
			}
		}
	}
}

func TestTwoClocksOfWhichOneSees(t *testing.T) {
	a, b := New(0), New(100)
	wantNext(t, a, 0, false, 1)
	b.See(1)
	wantNext(t, b, 0, false, 101)
	a.See(101)
	wantNext(t, a, 0, false, 102)
	wantNext(t, a, 0, false, 103)
	// b has not seen those two, so that it may give the same number.
	wantNext(t, b, 0, false, 102)
	b.See(103)
	wantNext(t, b, 0, false, 104)
	a.See(math.MaxUint64)
	wantFull(t, a, 0, true)
	wantNext(t, b, 0, true, 105)
	b.See(a.Last())
	wantFull(t, b, 0, true)
}

func TestManyClocksThatSeeOneAnother(t *testing.T) {
	source := rand.New(rand.NewSource(3))
	for _, start := range []uint64{0, 1000, topLSN - 300, maxLSN - 300} {
		var clocks []*watched
		for i := range api.MaxNodes {
			clocks = append(clocks, watch(start+uint64(10*i)))
		}
		for range 1000 {
			giver, taker := clocks[source.Intn(len(clocks))], clocks[source.Intn(len(clocks))]
			n, ok := giver.next(t, start, source.Intn(2) == 0)
			if ok && source.Intn(3) > 0 {
				taker.see(n)
			}
		}
	}
}

// R6.

// tell answers all that a clock tells of one long row of calls.
func tell(c *Clock) []uint64 {
	source := rand.New(rand.NewSource(6))
	var told []uint64
	for range 200 {
		n := edges[source.Intn(5)] + uint64(source.Intn(3))
		if source.Intn(2) == 0 {
			c.See(n)
		}
		got, errno := c.Next(n, source.Intn(2) == 0)
		told = append(told, got, uint64(errno), c.Last())
	}
	return told
}

func TestClocksAreApart(t *testing.T) {
	want := tell(New(3))
	first, second := New(3), New(3)
	if first == second {
		t.Fatal("New answers the same clock twice")
	}
	first.See(maxLSN)
	wantLast(t, second, 3)
	wantFull(t, first, 0, true)
	if got := tell(second); !slices.Equal(got, want) {
		t.Error("another clock plays a part in what a clock tells")
	}
	if got := tell(New(3)); !slices.Equal(got, want) {
		t.Error("a clock told the same tells otherwise")
	}
}
