package change

import (
	"math"
	"math/rand"
	"strings"
	"testing"

	"quayside/api"
)

const maxLSN = api.MaxLSN

var (
	wrongKinds = []int{math.MinInt, -3, -2, -1, 0, 4, 5, 255, 257, 258, 259, 1<<32 + 1, 1<<32 + 2, math.MaxInt}
	rightPages = []int{0, 1, 30, 31}
	wrongPages = []int{math.MinInt, -32, -1, 32, 33, 256, 65536, 1<<32 + 1, math.MaxInt}
	rightSlots = []int{0, 1, 2, 3, 4, 5, 6, 7}
	wrongSlots = []int{math.MinInt, -8, -1, 8, 9, 256, 1<<32 + 1, math.MaxInt}
	wrongLSNs  = []uint64{maxLSN + 1, maxLSN + 2, 1 << 63, math.MaxUint64}
)

// rightValues and wrongValues are values by their bytes, whatever they are.
func rightValues() []string {
	return []string{"", "\x00", "a", "b", "ab", "\xff\xfe", strings.Repeat("v", api.MaxValue-1), strings.Repeat("v", api.MaxValue), strings.Repeat("é", api.MaxValue/2)}
}

func wrongValues() []string {
	return []string{strings.Repeat("v", api.MaxValue+1), strings.Repeat("\x00", api.MaxValue+1), strings.Repeat("é", api.MaxValue/2+1), strings.Repeat("v", 256), strings.Repeat("v", 65536)}
}

func used(value string) api.Cell {
	return api.Cell{Used: true, Value: value}
}

func insert(slot int, value string) api.Change {
	return api.Change{Kind: api.Insert, Slot: slot, New: value}
}

func update(slot int, old, value string) api.Change {
	return api.Change{Kind: api.Update, Slot: slot, Old: old, New: value}
}

func remove(slot int, old string) api.Change {
	return api.Change{Kind: api.Delete, Slot: slot, Old: old}
}

// rightOfSlot are right changes of one cell: each kind, with each right value
// that the kind may have, two cells' values and the same value twice among
// them.
func rightOfSlot(page, slot int) []api.Change {
	var all []api.Change
	for _, a := range rightValues() {
		all = append(all,
			api.Change{Kind: api.Insert, Page: page, Slot: slot, New: a},
			api.Change{Kind: api.Delete, Page: page, Slot: slot, Old: a})
		for _, b := range rightValues() {
			all = append(all, api.Change{Kind: api.Update, Page: page, Slot: slot, Old: a, New: b})
		}
	}
	return all
}

func rightChanges() []api.Change {
	var all []api.Change
	for _, page := range rightPages {
		for _, slot := range rightSlots {
			all = append(all, rightOfSlot(page, slot)...)
		}
	}
	return all
}

// wrongChanges differ from right ones by one thing alone.
func wrongChanges() []api.Change {
	var all []api.Change
	for _, c := range rightOfSlot(3, 4) {
		for _, page := range wrongPages {
			all = append(all, api.Change{Kind: c.Kind, Page: page, Slot: c.Slot, Old: c.Old, New: c.New})
		}
		for _, slot := range wrongSlots {
			all = append(all, api.Change{Kind: c.Kind, Page: c.Page, Slot: slot, Old: c.Old, New: c.New})
		}
		for _, kind := range wrongKinds {
			all = append(all, api.Change{Kind: kind, Page: c.Page, Slot: c.Slot, Old: c.Old, New: c.New})
		}
	}
	for _, v := range rightValues()[1:] {
		for _, w := range rightValues() {
			all = append(all,
				api.Change{Kind: api.Insert, Page: 3, Slot: 4, Old: v, New: w},
				api.Change{Kind: api.Delete, Page: 3, Slot: 4, Old: w, New: v})
		}
	}
	for _, v := range wrongValues() {
		all = append(all, insert(4, v), remove(4, v), update(4, "a", v), update(4, v, "a"), update(4, v, v), update(4, v, ""), update(4, "", v))
	}
	return all
}

// somePages are right pages on which the cells are such as the changes of
// rightOfSlot find them, and such as they don't.
func somePages() []api.Page {
	pages := []api.Page{{}, {LSN: 5}, {LSN: maxLSN - 1}, {LSN: maxLSN}}
	for i, v := range rightValues() {
		full := api.Page{LSN: uint64(i)}
		for slot := range full.Cells {
			full.Cells[slot] = used(v)
		}
		mixed := full
		for slot := 0; slot < api.Slots; slot += 2 {
			mixed.Cells[slot] = api.Cell{}
		}
		pages = append(pages, full, mixed)
	}
	return pages
}

// wrongOnes are pages that aren't right, of which the cell 2 is as told.
func wrongOnes(cell api.Cell) []api.Page {
	var pages []api.Page
	for _, lsn := range wrongLSNs {
		p := api.Page{LSN: lsn}
		p.Cells[2] = cell
		pages = append(pages, p)
	}
	for slot := range api.Slots {
		if slot == 2 {
			continue
		}
		for _, wrong := range []api.Cell{{Value: "x"}, {Value: "\x00"}, used(strings.Repeat("v", api.MaxValue+1))} {
			p := api.Page{LSN: 4}
			p.Cells[2] = cell
			p.Cells[slot] = wrong
			pages = append(pages, p)
		}
	}
	return pages
}

// applied is the page that P5.1 asks for, by a list of all its errors in their
// order; it is asked with right arguments alone.
func applied(p api.Page, c api.Change, lsn uint64) (api.Page, api.Errno) {
	cell := p.Cells[c.Slot]
	faults := []struct {
		holds bool
		errno api.Errno
	}{
		{!(lsn > p.LSN), api.ErrState},
		{c.Kind == api.Insert && cell.Used, api.ErrExists},
		{c.Kind != api.Insert && !cell.Used, api.ErrNone},
		{cell.Value != c.Old, api.ErrForm},
	}
	for _, f := range faults {
		if f.holds {
			return api.Page{}, f.errno
		}
	}
	out := api.Page{LSN: lsn}
	for slot, old := range p.Cells {
		out.Cells[slot] = old
		if slot == c.Slot {
			out.Cells[slot] = map[int]api.Cell{api.Insert: used(c.New), api.Update: used(c.New), api.Delete: {}}[c.Kind]
		}
	}
	return out, api.OK
}

func wantApplied(t *testing.T, p api.Page, c api.Change, lsn uint64, want api.Page) {
	t.Helper()
	if got, errno := Apply(p, c, lsn); got != want || errno != api.OK {
		t.Errorf("Apply(%#v, %#v, %d): %#v, %d, not %#v", p, c, lsn, got, errno, want)
	}
}

func wantRefused(t *testing.T, p api.Page, c api.Change, lsn uint64, want api.Errno) {
	t.Helper()
	if got, errno := Apply(p, c, lsn); got != (api.Page{}) || errno != want {
		t.Errorf("Apply(%#v, %#v, %d): %#v, %d, not %d", p, c, lsn, got, errno, want)
	}
}

func wantOf(t *testing.T, page, slot int, from, to api.Cell, want api.Change) {
	t.Helper()
	if got, errno := Of(page, slot, from, to); got != want || errno != api.OK {
		t.Errorf("Of(%d, %d, %#v, %#v): %#v, %d, not %#v", page, slot, from, to, got, errno, want)
	}
}

func wantNoneOf(t *testing.T, page, slot int, from, to api.Cell, want api.Errno) {
	t.Helper()
	if got, errno := Of(page, slot, from, to); got != (api.Change{}) || errno != want {
		t.Errorf("Of(%d, %d, %#v, %#v): %#v, %d, not %d", page, slot, from, to, got, errno, want)
	}
}

// P5.1: Right.

func TestRightChangesAreRight(t *testing.T) {
	for _, c := range rightChanges() {
		if !Right(c) {
			t.Errorf("Right(%#v): false", c)
		}
	}
}

func TestWrongChangesAreNotRight(t *testing.T) {
	for _, c := range wrongChanges() {
		if Right(c) {
			t.Errorf("Right(%#v): true", c)
		}
	}
	if Right(api.Change{}) {
		t.Error("the zero Change is right")
	}
}

func TestEdgesOfPageAndSlot(t *testing.T) {
	for page := -40; page < 300; page++ {
		if got, want := Right(api.Change{Kind: api.Insert, Page: page}), page >= 0 && page <= 31; got != want {
			t.Errorf("the page %d: %t", page, got)
		}
	}
	for slot := -40; slot < 300; slot++ {
		if got, want := Right(api.Change{Kind: api.Insert, Slot: slot}), slot >= 0 && slot <= 7; got != want {
			t.Errorf("the slot %d: %t", slot, got)
		}
	}
}

func TestEdgesOfValues(t *testing.T) {
	for size := range 300 {
		v := strings.Repeat("v", size)
		want := size <= 20
		for _, c := range []api.Change{insert(0, v), remove(0, v), update(0, v, ""), update(0, "", v), update(0, v, v)} {
			if Right(c) != want {
				t.Errorf("a value of %d bytes, kind %d: %t", size, c.Kind, !want)
			}
		}
		if got := Right(api.Change{Kind: api.Insert, Old: v}); got != (size == 0) {
			t.Errorf("an Insert with an old value of %d bytes: %t", size, got)
		}
		if got := Right(api.Change{Kind: api.Delete, New: v}); got != (size == 0) {
			t.Errorf("a Delete with a new value of %d bytes: %t", size, got)
		}
	}
}

func TestEdgesOfKinds(t *testing.T) {
	for kind := -300; kind < 300; kind++ {
		if got, want := Right(api.Change{Kind: kind}), kind >= 1 && kind <= 3; got != want {
			t.Errorf("the kind %d: %t", kind, got)
		}
	}
}

// P5.1: Apply.

func TestApplyExample(t *testing.T) {
	one := api.Page{LSN: 5}
	one.Cells[2] = used("a")
	wantApplied(t, api.Page{}, insert(2, "a"), 5, one)
	wantRefused(t, one, insert(2, "a"), 6, api.ErrExists)
	wantRefused(t, one, insert(2, "a"), 5, api.ErrState)
}

func TestApplyOfEachKind(t *testing.T) {
	p := api.Page{LSN: 3, Cells: [api.Slots]api.Cell{used("a"), {}, used(""), {}, used("b"), {}, {}, used("c")}}

	q := p
	q.LSN, q.Cells[3] = 4, used("new")
	wantApplied(t, p, insert(3, "new"), 4, q)

	q = p
	q.LSN, q.Cells[7] = 9, used("d")
	wantApplied(t, p, update(7, "c", "d"), 9, q)

	q = p
	q.LSN, q.Cells[0] = 100, api.Cell{}
	wantApplied(t, p, remove(0, "a"), 100, q)
}

func TestApplyWithEmptyValues(t *testing.T) {
	p, q := api.Page{LSN: 1}, api.Page{LSN: 2}
	p.Cells[6] = used("")
	wantApplied(t, api.Page{}, insert(6, ""), 1, p)
	wantApplied(t, p, remove(6, ""), 2, q)
	q.Cells[6] = used("")
	wantApplied(t, p, update(6, "", ""), 2, q)
	q.Cells[6] = used("x")
	wantApplied(t, p, update(6, "", "x"), 2, q)
	wantRefused(t, p, insert(6, ""), 2, api.ErrExists)
	wantRefused(t, api.Page{}, remove(6, ""), 1, api.ErrNone)
	wantRefused(t, api.Page{}, update(6, "", ""), 1, api.ErrNone)
}

func TestAnUpdateToTheSameValueMovesTheLSN(t *testing.T) {
	for _, v := range rightValues() {
		p := api.Page{LSN: 3}
		p.Cells[1] = used(v)
		q := p
		q.LSN = 8
		wantApplied(t, p, update(1, v, v), 8, q)
	}
}

func TestApplyAsTheDocumentSays(t *testing.T) {
	var told [api.ErrTorn + 1]int
	for _, p := range somePages() {
		lsns := []uint64{0, 1, p.LSN, p.LSN + 1, maxLSN}
		if p.LSN > 0 {
			lsns = append(lsns, p.LSN-1)
		}
		for _, c := range rightChanges() {
			for _, lsn := range lsns {
				if lsn > maxLSN {
					continue
				}
				want, errno := applied(p, c, lsn)
				told[errno]++
				if errno != api.OK {
					wantRefused(t, p, c, lsn, errno)
				} else {
					wantApplied(t, p, c, lsn, want)
				}
			}
		}
		if t.Failed() {
			return
		}
	}
	for _, errno := range []api.Errno{api.OK, api.ErrState, api.ErrExists, api.ErrNone, api.ErrForm} {
		if told[errno] == 0 {
			t.Errorf("no page and change were to be answered %d", errno)
		}
	}
}

func TestThePagesNumberPlaysNoPart(t *testing.T) {
	want := api.Page{LSN: 5}
	want.Cells[2] = used("a")
	for page := range api.MaxPages {
		c := insert(2, "a")
		c.Page = page
		wantApplied(t, api.Page{}, c, 5, want)
	}
}

func TestEdgesOfTheLSN(t *testing.T) {
	for _, own := range []uint64{0, 1, 5, 1 << 32, api.TopLSN, maxLSN - 2, maxLSN - 1, maxLSN} {
		p := api.Page{LSN: own}
		wantRefused(t, p, insert(0, "a"), 0, api.ErrState)
		wantRefused(t, p, insert(0, "a"), own, api.ErrState)
		if own > 0 {
			wantRefused(t, p, insert(0, "a"), own-1, api.ErrState)
		}
		for _, lsn := range []uint64{own + 1, own + 2, api.TopLSN, api.TopLSN + 1, maxLSN - 1, maxLSN} {
			if lsn <= own || lsn > maxLSN {
				continue
			}
			q := api.Page{LSN: lsn}
			q.Cells[0] = used("a")
			wantApplied(t, p, insert(0, "a"), lsn, q)
		}
		for _, lsn := range wrongLSNs {
			wantRefused(t, p, insert(0, "a"), lsn, api.ErrArg)
		}
	}
}

func TestApplyRefusesAnOldValueThatIsnt(t *testing.T) {
	for _, v := range rightValues() {
		p := api.Page{LSN: 1}
		for slot := range p.Cells {
			p.Cells[slot] = used("other")
		}
		p.Cells[5] = used(v)
		for _, w := range rightValues() {
			if v == w {
				continue
			}
			wantRefused(t, p, remove(5, w), 2, api.ErrForm)
			wantRefused(t, p, update(5, w, v), 2, api.ErrForm)
			wantRefused(t, p, update(5, w, "new"), 2, api.ErrForm)
			wantRefused(t, p, update(5, w, w), 2, api.ErrForm)
		}
	}
}

func TestApplyRefusesWrongPages(t *testing.T) {
	for _, p := range wrongOnes(api.Cell{}) {
		wantRefused(t, p, insert(2, "a"), maxLSN, api.ErrArg)
	}
	for _, p := range wrongOnes(used("a")) {
		wantRefused(t, p, remove(2, "a"), maxLSN, api.ErrArg)
		wantRefused(t, p, update(2, "a", "b"), maxLSN, api.ErrArg)
	}
}

func TestApplyRefusesAChangedCellThatIsWrong(t *testing.T) {
	long := strings.Repeat("v", api.MaxValue+1)
	for _, cell := range []api.Cell{{Value: "x"}, {Value: long}, used(long)} {
		p := api.Page{LSN: 1}
		p.Cells[2] = cell
		for _, c := range []api.Change{insert(2, "x"), remove(2, "x"), update(2, "x", "y")} {
			wantRefused(t, p, c, 2, api.ErrArg)
		}
	}
}

func TestApplyRefusesWrongChanges(t *testing.T) {
	for _, p := range somePages() {
		for _, c := range wrongChanges() {
			wantRefused(t, p, c, maxLSN, api.ErrArg)
		}
	}
}

// Of two faults in one call the first one named is told: each is tried with
// each that is named behind it.
func TestTheOrderOfApplysErrors(t *testing.T) {
	full := api.Page{LSN: 5}
	full.Cells[2] = used("a")
	wrong := full
	wrong.Cells[3] = api.Cell{Value: "x"}
	empty := api.Page{LSN: 5}
	hollow := wrong
	hollow.Cells[2] = api.Cell{}
	off := insert(2, "b")
	off.Page = api.MaxPages
	wrongInsert := api.Change{Kind: api.Insert, Slot: 2, Old: "b", New: "b"}
	wrongDelete := api.Change{Kind: api.Delete, Slot: 2, Old: "b", New: "b"}

	cases := []struct {
		what string
		p    api.Page
		c    api.Change
		lsn  uint64
		want api.Errno
	}{
		{"a wrong page, an old LSN", wrong, update(2, "a", "b"), 5, api.ErrArg},
		{"a wrong page, a used cell", wrong, insert(2, "b"), 6, api.ErrArg},
		{"a wrong page, an unused cell", hollow, remove(2, "b"), 6, api.ErrArg},
		{"a wrong page, another value", wrong, update(2, "b", "c"), 6, api.ErrArg},
		{"a wrong change, an old LSN", full, off, 5, api.ErrArg},
		{"a wrong change, a used cell", full, wrongInsert, 6, api.ErrArg},
		{"a wrong change, an unused cell", empty, wrongDelete, 6, api.ErrArg},
		{"a wrong change, another value", full, wrongDelete, 6, api.ErrArg},
		{"an LSN too high, a used cell", full, insert(2, "b"), maxLSN + 1, api.ErrArg},
		{"an LSN too high, an unused cell", empty, remove(2, "b"), maxLSN + 1, api.ErrArg},
		{"an LSN too high, another value", full, update(2, "b", "c"), maxLSN + 1, api.ErrArg},
		{"a page and an LSN too high, the same", api.Page{LSN: maxLSN + 1}, insert(2, "b"), maxLSN + 1, api.ErrArg},
		{"an old LSN, a used cell", full, insert(2, "b"), 5, api.ErrState},
		{"an old LSN, an unused cell", empty, remove(2, "b"), 5, api.ErrState},
		{"an old LSN, another value", full, update(2, "b", "c"), 4, api.ErrState},
		{"a used cell, another value", full, insert(2, "b"), 6, api.ErrExists},
		{"an unused cell, another value", empty, remove(2, "b"), 6, api.ErrNone},
		{"an unused cell, another value", empty, update(2, "b", "c"), 6, api.ErrNone},
		{"another value", full, remove(2, "b"), 6, api.ErrForm},
		{"another value", full, update(2, "b", "a"), 6, api.ErrForm},
	}
	for _, c := range cases {
		if got, errno := Apply(c.p, c.c, c.lsn); got != (api.Page{}) || errno != c.want {
			t.Errorf("%s: %#v, %d, not %d", c.what, got, errno, c.want)
		}
	}
}

// P5.2: Inverse.

func TestInverseExample(t *testing.T) {
	if got, errno := Inverse(update(0, "a", "b")); got != update(0, "b", "a") || errno != api.OK {
		t.Errorf("Inverse: %#v, %d", got, errno)
	}
}

func TestInverseOfEachKind(t *testing.T) {
	cases := []struct{ c, want api.Change }{
		{api.Change{Kind: 1, Page: 31, Slot: 7, New: "x"}, api.Change{Kind: 3, Page: 31, Slot: 7, Old: "x"}},
		{api.Change{Kind: 3, Page: 30, Slot: 6, Old: "x"}, api.Change{Kind: 1, Page: 30, Slot: 6, New: "x"}},
		{api.Change{Kind: 2, Page: 9, Slot: 5, Old: "x"}, api.Change{Kind: 2, Page: 9, Slot: 5, New: "x"}},
		{api.Change{Kind: 2, Page: 9, Slot: 5, Old: "x", New: "x"}, api.Change{Kind: 2, Page: 9, Slot: 5, Old: "x", New: "x"}},
		{api.Change{Kind: 1}, api.Change{Kind: 3}},
		{api.Change{Kind: 2}, api.Change{Kind: 2}},
		{api.Change{Kind: 3}, api.Change{Kind: 1}},
	}
	for _, c := range cases {
		if got, errno := Inverse(c.c); got != c.want || errno != api.OK {
			t.Errorf("Inverse(%#v): %#v, %d, not %#v", c.c, got, errno, c.want)
		}
	}
}

func TestInverseExchangesTheValues(t *testing.T) {
	kindBack := []int{api.Insert: api.Delete, api.Update: api.Update, api.Delete: api.Insert}
	for _, c := range rightChanges() {
		want := api.Change{Kind: kindBack[c.Kind], Page: c.Page, Slot: c.Slot, Old: c.New, New: c.Old}
		if got, errno := Inverse(c); got != want || errno != api.OK {
			t.Errorf("Inverse(%#v): %#v, %d, not %#v", c, got, errno, want)
		}
	}
}

func TestTheInverseOfTheInverseIsTheChange(t *testing.T) {
	for _, c := range rightChanges() {
		once, first := Inverse(c)
		if !Right(once) {
			t.Errorf("Inverse(%#v) isn't right: %#v", c, once)
		}
		twice, second := Inverse(once)
		if twice != c || first != api.OK || second != api.OK {
			t.Errorf("Inverse of Inverse(%#v): %#v, %d, %d", c, twice, first, second)
		}
	}
}

func TestInverseRefusesWrongChanges(t *testing.T) {
	for _, c := range append(wrongChanges(), api.Change{}) {
		if got, errno := Inverse(c); got != (api.Change{}) || errno != api.ErrArg {
			t.Errorf("Inverse(%#v): %#v, %d", c, got, errno)
		}
	}
}

// P5.3: Of.

func TestOfExample(t *testing.T) {
	wantOf(t, 1, 2, api.Cell{}, used("x"), api.Change{Kind: api.Insert, Page: 1, Slot: 2, New: "x"})
}

func TestOfEachKind(t *testing.T) {
	for _, page := range rightPages {
		for _, slot := range rightSlots {
			for _, a := range rightValues() {
				wantOf(t, page, slot, api.Cell{}, used(a), api.Change{Kind: 1, Page: page, Slot: slot, New: a})
				wantOf(t, page, slot, used(a), api.Cell{}, api.Change{Kind: 3, Page: page, Slot: slot, Old: a})
				for _, b := range rightValues() {
					wantOf(t, page, slot, used(a), used(b), api.Change{Kind: 2, Page: page, Slot: slot, Old: a, New: b})
				}
			}
		}
	}
}

func TestOfNothing(t *testing.T) {
	for page := range api.MaxPages {
		for slot := range api.Slots {
			wantNoneOf(t, page, slot, api.Cell{}, api.Cell{}, api.ErrNone)
		}
	}
}

func TestOfRefusesWrongPlaces(t *testing.T) {
	pairs := [][2]api.Cell{{{}, {}}, {{}, used("x")}, {used("x"), {}}, {used("x"), used("y")}}
	for _, pair := range pairs {
		for _, page := range wrongPages {
			wantNoneOf(t, page, 2, pair[0], pair[1], api.ErrArg)
		}
		for _, slot := range wrongSlots {
			wantNoneOf(t, 1, slot, pair[0], pair[1], api.ErrArg)
		}
	}
}

func TestOfRefusesWrongCells(t *testing.T) {
	var wrong []api.Cell
	for _, v := range wrongValues() {
		wrong = append(wrong, used(v), api.Cell{Value: v})
	}
	for _, v := range rightValues()[1:] {
		wrong = append(wrong, api.Cell{Value: v})
	}
	for _, cell := range wrong {
		for _, other := range []api.Cell{{}, used(""), used("x"), cell} {
			wantNoneOf(t, 1, 2, cell, other, api.ErrArg)
			wantNoneOf(t, 1, 2, other, cell, api.ErrArg)
		}
	}
}

// P5.3 with P5.1: what comes out is right, and makes the one cell the other.
func TestOfMakesTheOneCellTheOther(t *testing.T) {
	cells := []api.Cell{{}}
	for _, v := range rightValues() {
		cells = append(cells, used(v))
	}
	for _, from := range cells {
		for _, to := range cells {
			if !from.Used && !to.Used {
				continue
			}
			c, errno := Of(7, 3, from, to)
			if errno != api.OK || !Right(c) {
				t.Errorf("Of(7, 3, %#v, %#v): %#v, %d", from, to, c, errno)
			}
			p, q := api.Page{LSN: 1}, api.Page{LSN: 2}
			p.Cells[3], q.Cells[3] = from, to
			wantApplied(t, p, c, 2, q)
		}
	}
}

// P5.4: what a change made its inverse takes back; two cells' changes.

func TestTheInverseTakesBackCellForCell(t *testing.T) {
	done := 0
	for _, p := range somePages() {
		for _, c := range rightChanges() {
			q, errno := Apply(p, c, p.LSN+1)
			if errno != api.OK || q.LSN == maxLSN {
				continue
			}
			done++
			back, errno := Inverse(c)
			if errno != api.OK {
				t.Fatalf("Inverse(%#v): %d", c, errno)
			}
			r, errno := Apply(q, back, q.LSN+1)
			if errno != api.OK || r.Cells != p.Cells || r.LSN != p.LSN+2 {
				t.Errorf("%#v and back on %#v: %#v, %d", c, p, r, errno)
			}
		}
	}
	if done < 1000 {
		t.Errorf("only %d changes were made and taken back", done)
	}
}

// fitting is a change of a cell that the page lets be made.
func fitting(source *rand.Rand, p api.Page, slot int) api.Change {
	values := rightValues()
	value := values[source.Intn(len(values))]
	cell := p.Cells[slot]
	if !cell.Used {
		return insert(slot, value)
	}
	if source.Intn(2) == 0 {
		return remove(slot, cell.Value)
	}
	return update(slot, cell.Value, value)
}

func madeOf(t *testing.T, p api.Page, changes ...api.Change) [api.Slots]api.Cell {
	t.Helper()
	for _, c := range changes {
		q, errno := Apply(p, c, p.LSN+1)
		if errno != api.OK {
			t.Fatalf("Apply(%#v, %#v, %d): %d", p, c, p.LSN+1, errno)
		}
		p = q
	}
	return p.Cells
}

func TestTwoCellsChangesInBothOrders(t *testing.T) {
	source := rand.New(rand.NewSource(5))
	pages := somePages()
	for range 20 {
		for _, p := range pages {
			p.LSN = 10
			for a := range api.Slots {
				for b := range api.Slots {
					if a == b {
						continue
					}
					first, second := fitting(source, p, a), fitting(source, p, b)
					one, other := madeOf(t, p, first, second), madeOf(t, p, second, first)
					want := p.Cells
					want[a], want[b] = madeOf(t, p, first)[a], madeOf(t, p, second)[b]
					if one != other || one != want {
						t.Fatalf("%#v, %#v: %#v, turned round %#v, not %#v", first, second, one, other, want)
					}
				}
			}
		}
	}
}

// A longer way out and back: many changes, then their inverses, the last one
// first.
func TestManyChangesAreTakenBack(t *testing.T) {
	source := rand.New(rand.NewSource(6))
	for _, start := range somePages() {
		start.LSN = 0
		p := start
		var done []api.Change
		for range 50 {
			c := fitting(source, p, source.Intn(api.Slots))
			q, errno := Apply(p, c, p.LSN+1)
			if errno != api.OK {
				t.Fatalf("Apply(%#v, %#v, %d): %d", p, c, p.LSN+1, errno)
			}
			done, p = append(done, c), q
		}
		for i := len(done) - 1; i >= 0; i-- {
			back, _ := Inverse(done[i])
			q, errno := Apply(p, back, p.LSN+1)
			if errno != api.OK {
				t.Fatalf("Apply(%#v, %#v, %d): %d", p, back, p.LSN+1, errno)
			}
			p = q
		}
		if p.Cells != start.Cells || p.LSN != 100 {
			t.Errorf("behind 50 changes and back: %#v, not %#v", p, start)
		}
	}
}

// R1, R2: at all arguments a call ends, and tells nothing beside an error.
func TestAnyArgumentsAreAnswered(t *testing.T) {
	source := rand.New(rand.NewSource(7))
	numbers := append([]int{api.Insert, api.Update, api.Delete, 0, 7, 31}, wrongPages...)
	values := append(rightValues(), wrongValues()...)
	number := func() int { return numbers[source.Intn(len(numbers))] }
	cell := func() api.Cell {
		return api.Cell{Used: source.Intn(2) == 0, Value: values[source.Intn(len(values))]}
	}
	for range 20000 {
		c := api.Change{Kind: number(), Page: number(), Slot: number(), Old: cell().Value, New: cell().Value}
		p := api.Page{LSN: source.Uint64() >> source.Intn(64)}
		p.Cells[source.Intn(api.Slots)] = cell()
		if got, errno := Apply(p, c, source.Uint64()>>source.Intn(64)); errno != api.OK && got != (api.Page{}) {
			t.Errorf("Apply(%#v, %#v): %#v beside %d", p, c, got, errno)
		}
		if got, errno := Inverse(c); (errno == api.OK) != Right(c) || errno != api.OK && got != (api.Change{}) {
			t.Errorf("Inverse(%#v): %#v beside %d", c, got, errno)
		}
		from, to := cell(), cell()
		if got, errno := Of(c.Page, c.Slot, from, to); (errno == api.OK) != Right(got) || errno != api.OK && got != (api.Change{}) {
			t.Errorf("Of(%d, %d, %#v, %#v): %#v beside %d", c.Page, c.Slot, from, to, got, errno)
		}
	}
}

// R3, R6: nothing that was handed in is changed, and the same call is answered
// the same, whatever was called ahead of it.
func TestArgumentsStayAndAnswersAreTheSameAgain(t *testing.T) {
	p := api.Page{LSN: 3}
	for slot := range p.Cells {
		p.Cells[slot] = used("a")
	}
	before := p
	c := update(4, "a", "b")
	first, _ := Apply(p, c, 4)
	kept := first
	if p != before || c != update(4, "a", "b") {
		t.Errorf("behind Apply its arguments are %#v, %#v", p, c)
	}
	for _, other := range rightChanges() {
		Apply(p, other, 9)
		Apply(first, other, 9)
		Inverse(other)
		Of(other.Page, other.Slot, p.Cells[0], used(other.New))
	}
	if p != before || first != kept {
		t.Errorf("behind other calls: %#v, %#v", p, first)
	}
	if again, errno := Apply(p, c, 4); again != kept || errno != api.OK {
		t.Errorf("Apply once more: %#v, %d, not %#v", again, errno, kept)
	}
	first.Cells[0] = used("changed")
	if p != before {
		t.Errorf("a change of the answer changed the argument: %#v", p)
	}
}
