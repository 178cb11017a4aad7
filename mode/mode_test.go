package mode

import (
	"math"
	"slices"
	"testing"
)

// modes are all that there are; the tables' rows and columns stand in this
// order.
var modes = []Mode{IS, IX, S, SIX, X}

// others are no modes: the edges, numbers below 0 and far above, and those
// that would be modes if only their lowest bits were looked at.
var others = []Mode{
	0, 6, -1, -2, -3, -4, -5, -6, 7, 8, 9, 15, 16,
	1<<8 + 1, 1<<8 + 5, 1<<16 + 3, 1<<32 + 1, 1<<32 + 2, 1<<32 + 3, 1<<32 + 4, 1<<32 + 5, -1<<32 + 1,
	math.MaxInt8, math.MinInt8, math.MaxInt32, math.MinInt32,
	math.MaxInt - 1, math.MaxInt, math.MinInt, math.MinInt + 1, math.MinInt + 5,
}

func isMode(m Mode) bool { return slices.Contains(modes, m) }

// all are the modes and the others.
func all() []Mode { return slices.Concat(modes, others) }

// fitting is the chapter's table, as it stands there.
var fitting = [5][5]bool{
	{true, true, true, true, false},
	{true, true, false, false, false},
	{true, false, true, false, false},
	{true, false, false, false, false},
	{false, false, false, false, false},
}

// covering is the chapter's sentence: a row's mode covers a column's.
var covering = [5][5]bool{
	{true, false, false, false, false},
	{true, true, false, false, false},
	{true, false, true, false, false},
	{true, true, true, true, false},
	{true, true, true, true, true},
}

// together is what Both is of a row's and a column's mode, written out by hand.
var together = [5][5]Mode{
	{IS, IX, S, SIX, X},
	{IX, IX, SIX, SIX, X},
	{S, SIX, S, SIX, X},
	{SIX, SIX, SIX, SIX, X},
	{X, X, X, X, X},
}

func wantRight(t *testing.T, m Mode, want bool) {
	t.Helper()
	if got := m.Right(); got != want {
		t.Errorf("Mode(%d).Right(): %t, not %t", m, got, want)
	}
}

func wantFits(t *testing.T, a, b Mode, want bool) {
	t.Helper()
	if got := Fits(a, b); got != want {
		t.Errorf("Fits(%d, %d): %t, not %t", a, b, got, want)
	}
}

func wantCovers(t *testing.T, a, b Mode, want bool) {
	t.Helper()
	if got := Covers(a, b); got != want {
		t.Errorf("Covers(%d, %d): %t, not %t", a, b, got, want)
	}
}

func wantBoth(t *testing.T, a, b, want Mode) {
	t.Helper()
	if got := Both(a, b); got != want {
		t.Errorf("Both(%d, %d): %d, not %d", a, b, got, want)
	}
}

func wantAround(t *testing.T, m, want Mode) {
	t.Helper()
	if got := Around(m); got != want {
		t.Errorf("Around(%d): %d, not %d", m, got, want)
	}
}

// The chapter's Words and Examples.

func TestNumbers(t *testing.T) {
	for i, m := range modes {
		if int(m) != i+1 {
			t.Errorf("the mode %d has the number %d", i+1, m)
		}
	}
}

func TestExamples(t *testing.T) {
	wantBoth(t, IX, S, SIX)
	wantBoth(t, IS, X, X)
	wantFits(t, SIX, IS, true)
	wantFits(t, SIX, SIX, false)
	wantAround(t, SIX, IX)
}

// P12.1: every mode, and every pair of modes.

func TestRightOfModes(t *testing.T) {
	for _, m := range modes {
		wantRight(t, m, true)
	}
}

func TestFitsIsTheTable(t *testing.T) {
	for i, a := range modes {
		for j, b := range modes {
			wantFits(t, a, b, fitting[i][j])
		}
	}
}

func TestCoversIsTheTable(t *testing.T) {
	for i, a := range modes {
		for j, b := range modes {
			wantCovers(t, a, b, covering[i][j])
		}
	}
}

func TestBothIsTheTable(t *testing.T) {
	for i, a := range modes {
		for j, b := range modes {
			wantBoth(t, a, b, together[i][j])
		}
	}
}

func TestAroundOfModes(t *testing.T) {
	wantAround(t, IS, IS)
	wantAround(t, IX, IX)
	wantAround(t, S, IS)
	wantAround(t, SIX, IX)
	wantAround(t, X, IX)
}

// P12.1: numbers that are no modes, on either side and on both.

func TestRightOfOthers(t *testing.T) {
	for _, m := range others {
		wantRight(t, m, false)
	}
}

func TestAroundOfOthers(t *testing.T) {
	for _, m := range others {
		wantAround(t, m, 0)
	}
}

func wantNothing(t *testing.T, a, b Mode) {
	t.Helper()
	wantFits(t, a, b, false)
	wantCovers(t, a, b, false)
	wantBoth(t, a, b, 0)
}

func TestPairsWithOthers(t *testing.T) {
	for _, a := range others {
		for _, b := range modes {
			wantNothing(t, a, b)
			wantNothing(t, b, a)
		}
		for _, b := range others {
			wantNothing(t, a, b)
		}
	}
}

func TestEveryNumberNearTheModes(t *testing.T) {
	for a := Mode(-300); a <= 300; a++ {
		wantRight(t, a, isMode(a))
		if !isMode(a) {
			wantAround(t, a, 0)
		}
		for b := Mode(-300); b <= 300; b++ {
			if !isMode(a) || !isMode(b) {
				wantNothing(t, a, b)
			}
		}
	}
}

// P12.1: Both covers both, and is covered by all that do, and no other mode
// is so.

func coversBoth(m, a, b Mode) bool { return Covers(m, a) && Covers(m, b) }

func isLeast(m, a, b Mode) bool {
	if !coversBoth(m, a, b) {
		return false
	}
	for _, other := range modes {
		if coversBoth(other, a, b) && !Covers(other, m) {
			return false
		}
	}
	return true
}

func TestBothIsTheLeastThatCoversBoth(t *testing.T) {
	for _, a := range all() {
		for _, b := range all() {
			both := Both(a, b)
			for _, m := range all() {
				if isLeast(m, a, b) != (m == both && isMode(m)) {
					t.Errorf("Both(%d, %d) is %d; %d is the least: %t", a, b, both, m, isLeast(m, a, b))
				}
			}
		}
	}
}

// P12.2: a least upper bound.

func TestBothDoesNotHangOnTheOrder(t *testing.T) {
	for _, a := range all() {
		for _, b := range all() {
			wantBoth(t, a, b, Both(b, a))
		}
	}
}

func TestThreeArePutTogetherAlike(t *testing.T) {
	for _, a := range all() {
		for _, b := range all() {
			for _, c := range all() {
				wantBoth(t, Both(a, b), c, Both(a, Both(b, c)))
			}
		}
	}
}

func TestBothOfOneMode(t *testing.T) {
	for _, m := range modes {
		wantBoth(t, m, m, m)
		wantBoth(t, m, IS, m)
		wantBoth(t, m, X, X)
	}
}

func TestCoveringIsAnOrder(t *testing.T) {
	for _, a := range all() {
		for _, b := range all() {
			if Covers(a, b) != (isMode(a) && Both(a, b) == a) {
				t.Errorf("Covers(%d, %d): %t, and Both: %d", a, b, Covers(a, b), Both(a, b))
			}
			if Covers(a, b) && Covers(b, a) && a != b {
				t.Errorf("%d and %d cover each other", a, b)
			}
			for _, c := range all() {
				if Covers(a, b) && Covers(b, c) && !Covers(a, c) {
					t.Errorf("%d covers %d, that covers %d, and %d doesn't", a, b, c, a)
				}
			}
		}
	}
}

func TestWhatFitsWithBothFitsWithEach(t *testing.T) {
	for _, a := range all() {
		for _, b := range all() {
			for _, m := range all() {
				if Fits(m, Both(a, b)) && !(Fits(m, a) && Fits(m, b)) {
					t.Errorf("%d fits with Both(%d, %d), and not with each", m, a, b)
				}
				if Fits(Both(a, b), m) && !(Fits(a, m) && Fits(b, m)) {
					t.Errorf("Both(%d, %d) fits with %d, and not each does", a, b, m)
				}
			}
		}
	}
}

func TestWhatCoversFitsWithNoMore(t *testing.T) {
	for _, a := range all() {
		for _, b := range all() {
			if !Covers(a, b) {
				continue
			}
			for _, m := range all() {
				if Fits(a, m) && !Fits(b, m) || Fits(m, a) && !Fits(m, b) {
					t.Errorf("%d covers %d, and fits with %d, with which %d doesn't", a, b, m, b)
				}
			}
		}
	}
}

// Two owners are alike, so that fitting can't hang on the order.
func TestFitsDoesNotHangOnTheOrder(t *testing.T) {
	for _, a := range all() {
		for _, b := range all() {
			wantFits(t, a, b, Fits(b, a))
		}
	}
}

// Around is monotone: who may have a mode on a thing may have each that it
// covers there, too.
func TestAroundKeepsTheOrder(t *testing.T) {
	for _, a := range modes {
		for _, b := range modes {
			if Covers(a, b) && !Covers(Around(a), Around(b)) {
				t.Errorf("%d covers %d, and what is around them doesn't", a, b)
			}
		}
	}
}

// R6: an answer hangs on the arguments alone, whatever was asked ahead of it.

type answers struct {
	right, fits, covers bool
	both, around        Mode
}

func ask(a, b Mode) answers {
	return answers{a.Right(), Fits(a, b), Covers(a, b), Both(a, b), Around(a)}
}

func TestAnswersHangOnTheArgumentsAlone(t *testing.T) {
	first := map[[2]Mode]answers{}
	for _, a := range all() {
		for _, b := range all() {
			first[[2]Mode{a, b}] = ask(a, b)
		}
	}
	turned := all()
	slices.Reverse(turned)
	for _, b := range turned {
		for _, a := range turned {
			if got := ask(a, b); got != first[[2]Mode{a, b}] {
				t.Errorf("of %d and %d: %v, and ahead of that %v", a, b, got, first[[2]Mode{a, b}])
			}
		}
	}
}
