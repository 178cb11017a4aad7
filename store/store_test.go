package store

import (
	"bytes"
	"fmt"
	"math"
	"math/rand"
	"slices"
	"strings"
	"testing"

	"quayside/api"
	"quayside/page"
)

const (
	maxPages = api.MaxPages
	maxNodes = api.MaxNodes
	maxLSN   = api.MaxLSN
	whole    = 15
)

// answer is what Read tells of a page.
type answer struct {
	page  api.Page
	errno api.Errno
}

// state is all that a store tells of itself.
type state struct {
	pages  int
	images [maxPages]string
	reads  [maxPages]answer
	out    [maxNodes]bool
}

func told(t *testing.T, s *Store) state {
	t.Helper()
	got := state{pages: s.Pages()}
	for id := range got.pages {
		b, errno := s.Image(id)
		if errno != api.OK || len(b) != api.PageSize {
			t.Fatalf("Image(%d): %d bytes, %d", id, len(b), errno)
		}
		got.images[id] = string(b)
		got.reads[id].page, got.reads[id].errno = s.Read(id)
	}
	for node := range maxNodes {
		got.out[node] = s.Out(node)
	}
	return got
}

// want asks twice, since asking must change nothing.
func want(t *testing.T, s *Store, wanted state) {
	t.Helper()
	for range 2 {
		if got := told(t, s); got != wanted {
			t.Errorf("the store is %s, not %s", short(got), short(wanted))
		}
	}
}

// short tells of each place the numbers in its stamps alone.
func short(s state) string {
	var b strings.Builder
	fmt.Fprintf(&b, "%d pages:", s.pages)
	for id := range s.pages {
		fmt.Fprintf(&b, " [%x %x, read %d %d]", s.images[id][:8], s.images[id][128:136], s.reads[id].page.LSN, s.reads[id].errno)
	}
	fmt.Fprintf(&b, ", out %v", s.out)
	return b.String()
}

func wantErrno(t *testing.T, call string, got, wanted api.Errno) {
	t.Helper()
	if got != wanted {
		t.Errorf("%s: %d, not %d", call, got, wanted)
	}
}

func wantRead(t *testing.T, s *Store, id int, p api.Page, wanted api.Errno) {
	t.Helper()
	got, errno := s.Read(id)
	if got != p || errno != wanted {
		t.Errorf("Read(%d): %#v, %d, not %#v, %d", id, got, errno, p, wanted)
	}
}

func wantOut(t *testing.T, s *Store, nodes ...int) {
	t.Helper()
	for node := range maxNodes {
		if wanted := slices.Contains(nodes, node); s.Out(node) != wanted {
			t.Errorf("Out(%d): %v", node, !wanted)
		}
	}
}

// full is a page of which both sectors hang on the letter.
func full(lsn uint64, letter byte) api.Page {
	p := api.Page{LSN: lsn}
	for i := range p.Cells {
		p.Cells[i] = api.Cell{Used: true, Value: strings.Repeat(string(rune(letter)), api.MaxValue)}
	}
	return p
}

func imageOf(t *testing.T, id int, p api.Page) string {
	t.Helper()
	b, errno := page.Encode(id, p)
	if errno != api.OK {
		t.Fatalf("no image of %#v: %d", p, errno)
	}
	return string(b)
}

// mixed is the first sector of one page's image, and the second one of another.
func mixed(t *testing.T, id int, first, second api.Page) string {
	t.Helper()
	return imageOf(t, id, first)[:api.Sector] + imageOf(t, id, second)[api.Sector:]
}

// lying is a store of three pages, of which the middle one has been written.
func lying(t *testing.T, p api.Page) *Store {
	t.Helper()
	s := New(3)
	wantErrno(t, "Write", s.Write(0, 1, p, whole), api.OK)
	return s
}

// cutOff is such a store, on which a node fell while it wrote the middle page.
func cutOff(t *testing.T, old api.Page, node int, p api.Page, mask int) *Store {
	t.Helper()
	s := lying(t, old)
	wantErrno(t, "Write that is cut off", s.Write(node, 1, p, mask), api.ErrLost)
	wantOut(t, s, node)
	return s
}

func isOneOf(mask int) bool {
	return slices.Contains([]int{0, 1, 2, 3, 7, 11, 15}, mask)
}

// The chapter's examples.

func TestExamples(t *testing.T) {
	p := full(5, 'a')
	s := New(2)
	wantErrno(t, "Write", s.Write(3, 1, p, 7), api.ErrLost)
	wantRead(t, s, 1, api.Page{}, api.ErrTorn)
	wantErrno(t, "Mend(node, 1)", s.Mend(3, 1), api.ErrLost)
	wantRead(t, s, 1, api.Page{}, api.ErrTorn)
	wantErrno(t, "Mend(node, 2)", s.Mend(3, 2), api.ErrLost)
	wantRead(t, s, 1, p, api.OK)
	wantOut(t, s, 3)
	wantErrno(t, "Mend(node, 0)", s.Mend(3, 0), api.OK)
	wantRead(t, s, 1, p, api.OK)
	wantOut(t, s)

	wantErrno(t, "Write", s.Write(3, 1, full(6, 'b'), 3), api.ErrLost)
	wantRead(t, s, 1, p, api.OK)
	wantOut(t, s, 3)
	wantErrno(t, "Mend(node, 0)", s.Mend(3, 0), api.OK)
	wantRead(t, s, 1, p, api.OK)
	wantOut(t, s)
}

// P10.1: New, Pages.

func TestNew(t *testing.T) {
	tests := []struct{ pages, want int }{
		{math.MinInt, 1},
		{-maxPages, 1},
		{-1, 1},
		{0, 1},
		{1, 1},
		{2, 2},
		{3, 3},
		{maxPages - 1, maxPages - 1},
		{maxPages, maxPages},
		{maxPages + 1, maxPages},
		{99, maxPages},
		{1<<32 + 5, maxPages},
		{math.MaxInt, maxPages},
	}
	for _, test := range tests {
		s := New(test.pages)
		wanted := state{pages: test.want}
		for id := range test.want {
			wanted.images[id] = imageOf(t, id, api.Page{})
		}
		want(t, s, wanted)
		_, errno := s.Read(test.want)
		wantErrno(t, "Read of the page beyond the last", errno, api.ErrArg)
		wantErrno(t, "Write of the page beyond the last", s.Write(0, test.want, full(1, 'a'), whole), api.ErrArg)
		wantErrno(t, "Write of the last page", s.Write(0, test.want-1, full(1, 'a'), whole), api.OK)
		wantRead(t, s, test.want-1, full(1, 'a'), api.OK)
	}
}

func TestABlankPlace(t *testing.T) {
	b, errno := New(9).Image(7)
	wantErrno(t, "Image", errno, api.OK)
	stamp := make([]byte, 8)
	first := slices.Concat(stamp, []byte{0, 7}, bytes.Repeat([]byte{255}, 8), make([]byte, 110))
	second := slices.Concat(stamp, make([]byte, 116))
	if !bytes.HasPrefix(b, slices.Concat(first, second)) || len(b) != 256 {
		t.Errorf("a blank place: %v", b)
	}
}

// P10.1: Write.

func TestWriteWhole(t *testing.T) {
	s := New(maxPages)
	wanted := told(t, s)
	for id := range maxPages {
		node, p := id%maxNodes, full(uint64(id+1), byte('a'+id%26))
		wantErrno(t, "Write", s.Write(node, id, p, whole), api.OK)
		wanted.images[id], wanted.reads[id] = imageOf(t, id, p), answer{page: p}
		want(t, s, wanted)
	}
	for id := range maxPages {
		p := api.Page{LSN: uint64(id + 2)}
		wantErrno(t, "Write", s.Write(0, id, p, whole), api.OK)
		wanted.images[id], wanted.reads[id] = imageOf(t, id, p), answer{page: p}
		want(t, s, wanted)
	}
}

func TestWriteOfEachMask(t *testing.T) {
	old, p := full(4, 'o'), full(9, 'n')
	tests := []struct {
		mask          int
		errno         api.Errno
		first, second api.Page
		read          answer
	}{
		{0, api.ErrLost, old, old, answer{page: old}},
		{1, api.ErrLost, old, old, answer{page: old}},
		{2, api.ErrLost, old, old, answer{page: old}},
		{3, api.ErrLost, old, old, answer{page: old}},
		{7, api.ErrLost, p, old, answer{errno: api.ErrTorn}},
		{11, api.ErrLost, old, p, answer{errno: api.ErrTorn}},
		{15, api.OK, p, p, answer{page: p}},
	}
	for _, test := range tests {
		for _, node := range []int{0, 3, maxNodes - 1} {
			s := lying(t, old)
			wanted := told(t, s)
			wantErrno(t, fmt.Sprint("Write with the mask ", test.mask), s.Write(node, 1, p, test.mask), test.errno)
			wanted.images[1] = mixed(t, 1, test.first, test.second)
			wanted.reads[1] = test.read
			wanted.out[node] = test.errno == api.ErrLost
			want(t, s, wanted)
		}
	}
}

func TestMasksThatAreNone(t *testing.T) {
	masks := []int{math.MinInt, math.MinInt + 15, -1 << 32, -16, 1 << 32, 1<<32 + 15, 1 << 62, math.MaxInt}
	for mask := -40; mask < 300; mask++ {
		masks = append(masks, mask)
	}
	for _, mask := range masks {
		if isOneOf(mask) {
			continue
		}
		s := lying(t, full(4, 'o'))
		before := told(t, s)
		wantErrno(t, fmt.Sprint("Write with the mask ", mask), s.Write(2, 1, full(9, 'n'), mask), api.ErrArg)
		want(t, s, before)
		wantErrno(t, "Write", s.Write(2, 1, full(9, 'n'), whole), api.OK)
	}
}

func TestWriteByNodesAndOfIds(t *testing.T) {
	tests := []struct {
		node, id int
		wanted   api.Errno
	}{
		{math.MinInt, 1, api.ErrArg},
		{-8, 1, api.ErrArg},
		{-1, 1, api.ErrArg},
		{0, 1, api.OK},
		{maxNodes - 1, 1, api.OK},
		{maxNodes, 1, api.ErrArg},
		{1 << 32, 1, api.ErrArg},
		{math.MaxInt, 1, api.ErrArg},
		{0, math.MinInt, api.ErrArg},
		{0, -1, api.ErrArg},
		{0, 0, api.OK},
		{0, 2, api.OK},
		{0, 3, api.ErrArg},
		{0, maxPages - 1, api.ErrArg},
		{0, maxPages, api.ErrArg},
		{0, 1 << 32, api.ErrArg},
		{0, math.MaxInt, api.ErrArg},
		{-1, -1, api.ErrArg},
		{maxNodes, 3, api.ErrArg},
	}
	for _, test := range tests {
		s := New(3)
		wanted := told(t, s)
		p := full(1, 'a')
		wantErrno(t, fmt.Sprint("Write ", test.node, " ", test.id), s.Write(test.node, test.id, p, whole), test.wanted)
		if test.wanted == api.OK {
			wanted.images[test.id], wanted.reads[test.id] = imageOf(t, test.id, p), answer{page: p}
		}
		want(t, s, wanted)
	}
}

// wrongPages are pages that aren't right.
func wrongPages() []api.Page {
	long, huge, hidden, last := full(9, 'n'), full(9, 'n'), full(9, 'n'), full(9, 'n')
	long.Cells[0].Value = strings.Repeat("x", api.MaxValue+1)
	huge.Cells[3].Value = strings.Repeat("x", 1<<16)
	hidden.Cells[5].Used = false
	last.Cells[api.Slots-1].Value += "x"
	return []api.Page{
		full(maxLSN+1, 'n'), full(math.MaxUint64, 'n'), {LSN: maxLSN + 1}, long, huge, hidden, last,
		{LSN: 9, Cells: [api.Slots]api.Cell{{Value: "x"}}},
	}
}

func TestWriteOfAPageThatIsNotRight(t *testing.T) {
	for _, p := range wrongPages() {
		for mask := range 16 {
			s := lying(t, full(4, 'o'))
			before := told(t, s)
			wantErrno(t, "Write of a page that isn't right", s.Write(2, 1, p, mask), api.ErrArg)
			want(t, s, before)
		}
	}
}

func TestWriteOfEachLSN(t *testing.T) {
	tests := []struct {
		stamp, lsn uint64
		wanted     api.Errno
	}{
		{0, 0, api.ErrState},
		{0, 1, api.OK},
		{0, maxLSN, api.OK},
		{4, 0, api.ErrState},
		{4, 3, api.ErrState},
		{4, 4, api.ErrState},
		{4, 5, api.OK},
		{4, 1<<32 + 1, api.OK},
		{1 << 32, 5, api.ErrState},
		{255, 256, api.OK},
		{256, 255, api.ErrState},
		{maxLSN - 1, maxLSN - 1, api.ErrState},
		{maxLSN - 1, maxLSN, api.OK},
		{maxLSN, maxLSN, api.ErrState},
		{maxLSN, maxLSN - 1, api.ErrState},
		{maxLSN, 1, api.ErrState},
		{maxLSN, maxLSN + 1, api.ErrArg},
	}
	for _, test := range tests {
		for _, mask := range []int{0, 1, 2, 3, 7, 11, 15} {
			s := New(3)
			if test.stamp > 0 {
				s = lying(t, full(test.stamp, 'o'))
			}
			before := told(t, s)
			wanted := test.wanted
			if wanted == api.OK && mask != whole {
				wanted = api.ErrLost
			}
			wantErrno(t, fmt.Sprint("Write ", test.lsn, " over ", test.stamp), s.Write(2, 1, full(test.lsn, 'n'), mask), wanted)
			if test.wanted != api.OK {
				want(t, s, before)
			}
		}
	}
}

// The stamp that counts is that of the place, not that of a page that was
// written into an area alone.
func TestWriteBehindAWriteThatLeftThePlace(t *testing.T) {
	old := full(4, 'o')
	for mask := range 4 {
		s := cutOff(t, old, 2, full(9, 'n'), mask)
		wantErrno(t, "Mend", s.Mend(2, 0), api.OK)
		wantErrno(t, "Write of the place's stamp", s.Write(2, 1, full(4, 'x'), whole), api.ErrState)
		wantErrno(t, "Write one above", s.Write(2, 1, full(5, 'x'), whole), api.OK)
		wantRead(t, s, 1, full(5, 'x'), api.OK)
	}
	for _, mask := range []int{7, 11} {
		s := cutOff(t, old, 2, full(9, 'n'), mask)
		wantErrno(t, "Mend", s.Mend(2, 3), api.OK)
		wantErrno(t, "Write of an older page", s.Write(2, 1, full(8, 'x'), whole), api.ErrState)
		wantErrno(t, "Write of the place's stamp", s.Write(2, 1, full(9, 'x'), whole), api.ErrState)
		wantRead(t, s, 1, full(9, 'n'), api.OK)
		wantErrno(t, "Write one above", s.Write(2, 1, full(10, 'x'), whole), api.OK)
		wantRead(t, s, 1, full(10, 'x'), api.OK)
	}
}

func TestWriteByANodeThatIsOut(t *testing.T) {
	for _, cut := range []int{0, 1, 2, 3, 7, 11} {
		for _, mask := range []int{0, 1, 2, 3, 7, 11, 15} {
			for id := range 3 {
				s := cutOff(t, full(4, 'o'), 2, full(9, 'n'), cut)
				before := told(t, s)
				wantErrno(t, "Write by a node that is out", s.Write(2, id, full(12, 'x'), mask), api.ErrState)
				want(t, s, before)
				wantErrno(t, "Mend", s.Mend(2, 3), api.OK)
				wantErrno(t, "Write by a node that was out", s.Write(2, id, full(12, 'x'), whole), api.OK)
				wantRead(t, s, id, full(12, 'x'), api.OK)
			}
		}
	}
}

func TestWriteOfAPageThatAnotherNodeWasWriting(t *testing.T) {
	for _, cut := range []int{0, 1, 2, 3, 7, 11} {
		for _, mask := range []int{0, 1, 2, 3, 7, 11, 15} {
			for _, node := range []int{0, 1, 3, maxNodes - 1} {
				s := cutOff(t, full(4, 'o'), 2, full(9, 'n'), cut)
				before := told(t, s)
				for _, lsn := range []uint64{0, 4, 5, 9, 10, maxLSN} {
					wantErrno(t, "Write of a page that is to be mended", s.Write(node, 1, full(lsn, 'x'), mask), api.ErrState)
					want(t, s, before)
				}
				wantErrno(t, "Write of another page", s.Write(node, 0, full(1, 'x'), whole), api.OK)
				wantErrno(t, "Mend", s.Mend(2, 3), api.OK)
				wantErrno(t, "Write of a page that is mended", s.Write(node, 1, full(10, 'x'), whole), api.OK)
				wantRead(t, s, 1, full(10, 'x'), api.OK)
			}
		}
	}
}

// A place that is whole again isn't free for as long as its node is out.
func TestWriteOfAPageThatIsWholeAgain(t *testing.T) {
	s := cutOff(t, full(4, 'o'), 2, full(9, 'n'), 7)
	wantErrno(t, "Mend(2, 2)", s.Mend(2, 2), api.ErrLost)
	wantRead(t, s, 1, full(9, 'n'), api.OK)
	wantErrno(t, "Write", s.Write(3, 1, full(10, 'x'), whole), api.ErrState)
	wantErrno(t, "Write", s.Write(2, 1, full(10, 'x'), whole), api.ErrState)
	wantErrno(t, "Write", s.Write(2, 0, full(10, 'x'), whole), api.ErrState)
	wantErrno(t, "Mend(2, 1)", s.Mend(2, 1), api.OK)
	wantErrno(t, "Write", s.Write(3, 1, full(10, 'x'), whole), api.OK)
}

func TestSeveralNodesOut(t *testing.T) {
	s := New(maxPages)
	for node := range maxNodes {
		cut := []int{0, 1, 2, 3, 7, 11, 7, 11}[node]
		wantErrno(t, "Write", s.Write(node, 2*node, full(uint64(node+1), byte('a'+node)), cut), api.ErrLost)
	}
	wantOut(t, s, 0, 1, 2, 3, 4, 5, 6, 7)
	for node := range maxNodes {
		for id := range maxPages {
			wantErrno(t, "Write while all are out", s.Write(node, id, full(99, 'x'), whole), api.ErrState)
		}
	}
	for _, node := range []int{5, 0, 7, 3, 6, 1, 4, 2} {
		wantErrno(t, "Mend", s.Mend(node, 3), api.OK)
		if s.Out(node) {
			t.Errorf("the node %d is out behind a Mend", node)
		}
	}
	wantOut(t, s)
	for node := range maxNodes {
		wanted := api.Page{}
		if node >= 4 {
			wanted = full(uint64(node+1), byte('a'+node))
		}
		wantRead(t, s, 2*node, wanted, api.OK)
		wantRead(t, s, 2*node+1, api.Page{}, api.OK)
	}
}

// P10.1 and R1: an argument that may not be is told ahead of a state.
func TestErrArgIsToldFirst(t *testing.T) {
	for _, cut := range []int{0, 1, 2, 3, 7, 11} {
		s := cutOff(t, full(4, 'o'), 2, full(9, 'n'), cut)
		before := told(t, s)
		for _, lsn := range []uint64{1, 4, 12} {
			p := full(lsn, 'x')
			wantErrno(t, "a node that is none", s.Write(-1, 1, p, whole), api.ErrArg)
			wantErrno(t, "a node that is none", s.Write(maxNodes, 1, p, whole), api.ErrArg)
			wantErrno(t, "an id that is none", s.Write(2, 3, p, whole), api.ErrArg)
			wantErrno(t, "an id that is none", s.Write(2, -1, p, whole), api.ErrArg)
			for _, mask := range []int{-1, 4, 5, 6, 8, 9, 10, 12, 13, 14, 16} {
				for node := range 4 {
					wantErrno(t, "a mask that is none", s.Write(node, 1, p, mask), api.ErrArg)
				}
			}
		}
		for _, p := range wrongPages() {
			for node := range 4 {
				wantErrno(t, "a page that isn't right", s.Write(node, 1, p, whole), api.ErrArg)
			}
		}
		for _, mask := range []int{math.MinInt, -1, 4, 7, 15, math.MaxInt} {
			wantErrno(t, "Mend with a mask that is none", s.Mend(2, mask), api.ErrArg)
			wantErrno(t, "Mend with a mask that is none", s.Mend(3, mask), api.ErrArg)
		}
		want(t, s, before)
		wantErrno(t, "Mend", s.Mend(2, 3), api.OK)
		wanted := full(4, 'o')
		if cut > 3 {
			wanted = full(9, 'n')
		}
		wantRead(t, s, 1, wanted, api.OK)
	}
}

// P10.2: Mend.

func TestMendOfNodesAndMasksThatAreNone(t *testing.T) {
	for _, s := range []*Store{New(1), cutOff(t, full(4, 'o'), 0, full(9, 'n'), 7), cutOff(t, full(4, 'o'), 7, full(9, 'n'), 3)} {
		before := told(t, s)
		for _, node := range []int{math.MinInt, -8, -1, maxNodes, maxNodes + 1, 1 << 32, math.MaxInt} {
			for _, mask := range []int{math.MinInt, -1, 0, 1, 2, 3, 4, math.MaxInt} {
				wantErrno(t, "Mend of a node that is none", s.Mend(node, mask), api.ErrArg)
			}
		}
		for node := range maxNodes {
			for _, mask := range []int{math.MinInt, -4, -3, -1, 4, 5, 7, 11, 15, 16, 1<<32 + 3, math.MaxInt} {
				wantErrno(t, "Mend with a mask that is none", s.Mend(node, mask), api.ErrArg)
			}
		}
		want(t, s, before)
	}
}

func TestMendOfANodeThatIsNotOut(t *testing.T) {
	for _, s := range []*Store{New(3), lying(t, full(4, 'o')), cutOff(t, full(4, 'o'), 2, full(9, 'n'), 7), cutOff(t, full(4, 'o'), 2, full(9, 'n'), 1)} {
		before := told(t, s)
		for node := range maxNodes {
			for mask := range 4 {
				if node == 2 && s.Out(2) {
					continue
				}
				wantErrno(t, "Mend of a node that isn't out", s.Mend(node, mask), api.OK)
				want(t, s, before)
			}
		}
	}
}

func TestMendOfAPlaceThatIsWhole(t *testing.T) {
	for cut := range 4 {
		for mask := range 4 {
			s := lying(t, full(4, 'o'))
			before := told(t, s)
			wantErrno(t, "Write", s.Write(2, 1, full(9, 'n'), cut), api.ErrLost)
			wantErrno(t, "Mend", s.Mend(2, mask), api.OK)
			want(t, s, before)
		}
	}
}

func TestMendOfAPlaceThatIsTorn(t *testing.T) {
	old, p := full(4, 'o'), full(9, 'n')
	tests := []struct {
		cut, mask     int
		errno         api.Errno
		first, second api.Page
		read          answer
	}{
		{7, 0, api.ErrLost, p, old, answer{errno: api.ErrTorn}},
		{7, 1, api.ErrLost, p, old, answer{errno: api.ErrTorn}},
		{7, 2, api.ErrLost, p, p, answer{page: p}},
		{7, 3, api.OK, p, p, answer{page: p}},
		{11, 0, api.ErrLost, old, p, answer{errno: api.ErrTorn}},
		{11, 1, api.ErrLost, p, p, answer{page: p}},
		{11, 2, api.ErrLost, old, p, answer{errno: api.ErrTorn}},
		{11, 3, api.OK, p, p, answer{page: p}},
	}
	for _, test := range tests {
		for _, node := range []int{0, 2, maxNodes - 1} {
			s := cutOff(t, old, node, p, test.cut)
			wanted := told(t, s)
			wantErrno(t, fmt.Sprint("Mend ", test.mask, " behind ", test.cut), s.Mend(node, test.mask), test.errno)
			wanted.images[1] = mixed(t, 1, test.first, test.second)
			wanted.reads[1] = test.read
			wanted.out[node] = test.errno == api.ErrLost
			want(t, s, wanted)
		}
	}
}

// However many Mends are cut off, the node is mended by the first that finds
// the place whole, or does all of it.
func TestSeveralMends(t *testing.T) {
	const mends = 5
	old, p := full(4, 'o'), full(9, 'n')
	for _, cut := range []int{7, 11} {
		for way := range 1 << (2 * mends) {
			s := cutOff(t, old, 2, p, cut)
			torn, out := true, true
			for range mends {
				mask := way & 3
				way >>= 2
				wanted := api.OK
				if out && torn {
					torn = mask != 3 && (cut == 7 && mask != 2 || cut == 11 && mask != 1)
					out = mask != 3
				} else {
					out = false
				}
				if out {
					wanted = api.ErrLost
				}
				wantErrno(t, "Mend", s.Mend(2, mask), wanted)
				if s.Out(2) != out {
					t.Fatalf("Out: %v", !out)
				}
				if torn {
					wantRead(t, s, 1, api.Page{}, api.ErrTorn)
				} else {
					wantRead(t, s, 1, p, api.OK)
				}
			}
		}
	}
}

// What a node wrote last is what it is mended by, whatever its area had.
func TestMendTakesTheLastWrite(t *testing.T) {
	s := lying(t, full(4, 'o'))
	wantErrno(t, "Write", s.Write(2, 0, full(20, 'a'), whole), api.OK)
	wantErrno(t, "Write", s.Write(2, 2, full(21, 'b'), 7), api.ErrLost)
	wantErrno(t, "Mend", s.Mend(2, 3), api.OK)
	for _, cut := range []int{0, 1, 2, 3} {
		wantErrno(t, "Write", s.Write(2, 0, full(30, byte('c'+cut)), cut), api.ErrLost)
		wantErrno(t, "Mend", s.Mend(2, 3), api.OK)
	}
	wantErrno(t, "Write", s.Write(2, 1, full(9, 'n'), 11), api.ErrLost)
	wantErrno(t, "Write by another", s.Write(3, 0, full(40, 'x'), 7), api.ErrLost)
	wantErrno(t, "Mend", s.Mend(2, 3), api.OK)
	wantRead(t, s, 0, api.Page{}, api.ErrTorn)
	wantRead(t, s, 1, full(9, 'n'), api.OK)
	wantRead(t, s, 2, full(21, 'b'), api.OK)
	wantOut(t, s, 3)
	wantErrno(t, "Mend", s.Mend(3, 3), api.OK)
	wantRead(t, s, 0, full(40, 'x'), api.OK)
}

// P10.3: Read, Image, Out.

func TestReadAndImageOfIdsThatAreNone(t *testing.T) {
	for _, s := range []*Store{New(3), cutOff(t, full(4, 'o'), 2, full(9, 'n'), 7)} {
		for _, id := range []int{math.MinInt, -maxPages, -1, 3, 4, maxPages - 1, maxPages, 1 << 32, math.MaxInt} {
			wantRead(t, s, id, api.Page{}, api.ErrArg)
			b, errno := s.Image(id)
			if len(b) != 0 || errno != api.ErrArg {
				t.Errorf("Image(%d): %v, %d", id, b, errno)
			}
		}
	}
}

func TestOutOfNodesThatAreNone(t *testing.T) {
	s := New(maxNodes)
	for node := range maxNodes {
		s.Write(node, node, full(1, 'a'), 7)
	}
	for _, node := range []int{math.MinInt, -8, -1, maxNodes, maxNodes + 1, 1 << 32, math.MaxInt} {
		if s.Out(node) {
			t.Errorf("Out(%d)", node)
		}
	}
}

// P10.4, and all promises held against a store that is told the plainest way.

// desk is a store whose sectors are told by the pages that they are of.
type desk struct {
	places [][2]api.Page
	areas  [maxNodes][2]api.Page
	// writing has, for each node that is out, the page that it was writing.
	writing map[int]int
}

func newDesk(pages int) *desk {
	return &desk{places: make([][2]api.Page, pages), writing: map[int]int{}}
}

// step is a call of a store.
type step struct {
	call     string
	node, id int
	page     api.Page
	mask     int
}

func (d *desk) does(p step) api.Errno {
	if p.call == "Mend" {
		return d.mends(p.node, p.mask)
	}
	if p.node < 0 || p.node >= maxNodes || p.id < 0 || p.id >= len(d.places) || !page.Right(p.page) || !isOneOf(p.mask) {
		return api.ErrArg
	}
	for node, id := range d.writing {
		if node == p.node || id == p.id {
			return api.ErrState
		}
	}
	if p.page.LSN <= d.places[p.id][0].LSN {
		return api.ErrState
	}
	for i, at := range []*api.Page{&d.areas[p.node][0], &d.areas[p.node][1], &d.places[p.id][0], &d.places[p.id][1]} {
		if p.mask&(1<<i) != 0 {
			*at = p.page
		}
	}
	if p.mask == whole {
		return api.OK
	}
	d.writing[p.node] = p.id
	return api.ErrLost
}

func (d *desk) mends(node, mask int) api.Errno {
	if node < 0 || node >= maxNodes || mask < 0 || mask > 3 {
		return api.ErrArg
	}
	id, out := d.writing[node]
	if !out {
		return api.OK
	}
	at := &d.places[id]
	if at[0].LSN != at[1].LSN {
		for i := range at {
			if mask&(1<<i) != 0 {
				at[i] = d.areas[node][i]
			}
		}
		if mask != 3 {
			return api.ErrLost
		}
	}
	delete(d.writing, node)
	return api.OK
}

// images keeps what was encoded once, since the same pages come again and again.
type images map[imageKey]string

// imageKey tells pages apart that are full of one letter.
type imageKey struct {
	id    int
	lsn   uint64
	value string
}

func (m images) of(t *testing.T, id int, p api.Page) string {
	t.Helper()
	key := imageKey{id, p.LSN, p.Cells[0].Value}
	if m[key] == "" {
		m[key] = imageOf(t, id, p)
	}
	return m[key]
}

func (d *desk) tells(t *testing.T, m images) state {
	t.Helper()
	all := state{pages: len(d.places)}
	for id, at := range d.places {
		all.images[id] = m.of(t, id, at[0])[:api.Sector] + m.of(t, id, at[1])[api.Sector:]
		all.reads[id] = answer{page: at[0]}
		if at[0].LSN != at[1].LSN {
			all.reads[id] = answer{errno: api.ErrTorn}
		}
	}
	for node := range d.writing {
		all.out[node] = true
	}
	return all
}

func done(s *Store, p step) api.Errno {
	if p.call == "Mend" {
		return s.Mend(p.node, p.mask)
	}
	return s.Write(p.node, p.id, p.page, p.mask)
}

// run is a store and a desk that are told the same, and what P10.4 says of them.
type run struct {
	s     *Store
	d     *desk
	m     images
	now   state
	heirs []api.Page
}

func newRun(t *testing.T, pages int, m images) *run {
	t.Helper()
	s := New(pages)
	return &run{s: s, d: newDesk(pages), m: m, now: told(t, s), heirs: make([]api.Page, pages)}
}

func (r *run) wantAlike(t *testing.T, p step) {
	t.Helper()
	before := r.now
	errno, wanted := done(r.s, p), r.d.does(p)
	r.now = told(t, r.s)
	if errno != wanted {
		t.Fatalf("%#v of %s: %d, not %d", p, short(before), errno, wanted)
	}
	if all := r.d.tells(t, r.m); r.now != all {
		t.Fatalf("%#v of %s: %s, not %s", p, short(before), short(r.now), short(all))
	}
	if errno != api.OK && errno != api.ErrLost && r.now != before {
		t.Fatalf("%#v of %s: the error %d, and %s", p, short(before), errno, short(r.now))
	}
	r.wantHeirs(t, p, errno)
}

// wantHeirs asks P10.4 without a look at the desk: from a Write on of which a
// sector of the place was written no other page may lie there as a whole, and
// none is torn unless a node is out.
func (r *run) wantHeirs(t *testing.T, p step, errno api.Errno) {
	t.Helper()
	if p.call == "Write" && (errno == api.OK || errno == api.ErrLost && p.mask > 3) {
		r.heirs[p.id] = p.page
	}
	nobody := r.now.out == [maxNodes]bool{}
	for id, heir := range r.heirs {
		read := r.now.reads[id]
		if read == (answer{page: heir}) || !nobody && read == (answer{errno: api.ErrTorn}) {
			continue
		}
		t.Fatalf("behind %#v the page %d isn't that of the LSN %d: %s", p, id, heir.LSN, short(r.now))
	}
}

// All ways to do four steps of these on one page are gone through.
func TestAllShortWays(t *testing.T) {
	const steps = 4
	var choices []step
	for node, masks := range [][]int{{3, 7, 11, 15}, {7, 15}} {
		for _, mask := range masks {
			choices = append(choices, step{call: "Write", node: node, mask: mask})
		}
	}
	for node, masks := range [][]int{{0, 1, 2, 3}, {1, 3}} {
		for _, mask := range masks {
			choices = append(choices, step{call: "Mend", node: node, mask: mask})
		}
	}
	ways, m := 1, images{}
	for range steps {
		ways *= len(choices)
	}
	for way := range ways {
		r := newRun(t, 1, m)
		for i := range steps {
			p := choices[way%len(choices)]
			way /= len(choices)
			p.page = full(uint64(i+1), byte('a'+i))
			r.wantAlike(t, p)
		}
	}
}

// anyStep is a step of which most are right; its pages' LSNs are mostly above
// all that were written ahead.
func anyStep(source *rand.Rand, pages, nodes, at int) step {
	p := step{call: "Write", node: source.Intn(nodes), id: source.Intn(pages)}
	if source.Intn(3) == 0 {
		p.call, p.mask = "Mend", source.Intn(4)
	} else {
		p.mask = []int{0, 1, 2, 3, 7, 7, 11, 11, 15, 15}[source.Intn(10)]
		p.page = full(uint64(at+1), byte('a'+at%26))
	}
	switch source.Intn(30) {
	case 0:
		p.node = source.Intn(30) - 10
	case 1:
		p.id = source.Intn(60) - 10
	case 2:
		p.mask = source.Intn(24) - 4
	case 3:
		p.page.LSN = uint64(source.Intn(at + 1))
	case 4:
		p.page.LSN = maxLSN + 1
	case 5:
		p.page.Cells[2] = api.Cell{Value: "hidden"}
	}
	return p
}

func TestLongWays(t *testing.T) {
	source := rand.New(rand.NewSource(10))
	for _, size := range []struct{ pages, nodes, runs int }{{1, 1, 20}, {1, 3, 20}, {2, 2, 20}, {4, 8, 20}, {maxPages, maxNodes, 3}} {
		for range size.runs {
			r := newRun(t, size.pages, images{})
			for i := range 300 {
				r.wantAlike(t, anyStep(source, size.pages, size.nodes, i))
			}
		}
	}
}

// P10.4: all mended, at whatever time, however often each Mend is cut off.
func TestWhenNoNodeIsOutNoPlaceIsTorn(t *testing.T) {
	source := rand.New(rand.NewSource(104))
	for range 300 {
		r := newRun(t, 3, images{})
		for i := range source.Intn(40) {
			r.wantAlike(t, anyStep(source, 3, 4, i))
		}
		for node := range maxNodes {
			for range source.Intn(4) {
				r.wantAlike(t, step{call: "Mend", node: node, mask: source.Intn(4)})
			}
			r.wantAlike(t, step{call: "Mend", node: node, mask: 3})
		}
		wantOut(t, r.s)
		for id, heir := range r.heirs {
			wantRead(t, r.s, id, heir, api.OK)
			if r.now.images[id] != imageOf(t, id, heir) {
				t.Errorf("the place %d has no image of its page", id)
			}
		}
	}
}

// P10.1, P10.2: all kinds of arguments, in several states.
func TestArgumentsInSeveralStates(t *testing.T) {
	ways := [][]step{
		{},
		{{"Write", 0, 1, full(4, 'o'), 15}},
		{{"Write", 0, 1, full(4, 'o'), 15}, {"Write", 1, 1, full(6, 'n'), 3}},
		{{"Write", 0, 1, full(4, 'o'), 15}, {"Write", 1, 1, full(6, 'n'), 7}},
		{{"Write", 0, 1, full(4, 'o'), 15}, {"Write", 1, 1, full(6, 'n'), 7}, {"Mend", 1, 0, api.Page{}, 2}},
		{{"Write", 0, 1, full(4, 'o'), 15}, {"Write", 1, 1, full(6, 'n'), 11}, {"Mend", 1, 0, api.Page{}, 3}},
		{{"Write", 0, 0, full(4, 'o'), 0}, {"Write", 1, 1, full(6, 'n'), 11}},
	}
	wrong := full(9, 'n')
	wrong.Cells[0].Used = false
	pages := []api.Page{full(0, 'x'), full(3, 'x'), full(4, 'x'), full(5, 'x'), full(6, 'x'), full(7, 'x'), full(maxLSN, 'x'), full(maxLSN+1, 'x'), wrong}
	m := images{}
	for _, way := range ways {
		ahead := newRun(t, 2, m)
		for _, p := range way {
			ahead.wantAlike(t, p)
		}
		for _, node := range []int{-1, 0, 1, 7, 8} {
			for mask := -1; mask < 17; mask++ {
				calls := []step{{"Mend", node, 0, api.Page{}, mask}}
				for id := -1; id < 3; id++ {
					for _, p := range pages {
						calls = append(calls, step{"Write", node, id, p, mask})
					}
				}
				for _, p := range calls {
					ahead.fork(t, way).wantAlike(t, p)
				}
			}
		}
	}
}

// fork is a run that has gone the same way, of which all was asked already.
func (r *run) fork(t *testing.T, way []step) *run {
	t.Helper()
	next := &run{s: New(len(r.heirs)), d: newDesk(len(r.heirs)), m: r.m, now: r.now, heirs: slices.Clone(r.heirs)}
	for _, p := range way {
		done(next.s, p)
		next.d.does(p)
	}
	return next
}

// P10.5: a nil Store, and the zero one.

func TestANilStoreAndTheZeroOne(t *testing.T) {
	var none *Store
	var zero Store
	edges := []int{math.MinInt, -1, 0, 1, 2, 3, 7, 8, 11, 15, 16, 31, 32, math.MaxInt}
	for _, s := range []*Store{none, &zero, new(Store), {}} {
		for range 2 {
			want(t, s, state{})
			for _, a := range edges {
				wantRead(t, s, a, api.Page{}, api.ErrArg)
				b, errno := s.Image(a)
				if len(b) != 0 || errno != api.ErrArg {
					t.Errorf("Image(%d): %v, %d", a, b, errno)
				}
				if s.Out(a) {
					t.Errorf("Out(%d)", a)
				}
				for _, mask := range edges {
					wantErrno(t, "Mend", s.Mend(a, mask), api.ErrArg)
					for _, id := range edges {
						wantErrno(t, "Write", s.Write(a, id, full(1, 'a'), mask), api.ErrArg)
						wantErrno(t, "Write", s.Write(a, id, api.Page{}, mask), api.ErrArg)
					}
				}
			}
		}
	}
}

// R3: what comes out shares nothing with what is kept.

// scribble writes all of an answer's memory over, that behind its length too.
func scribble(b []byte) {
	b = b[:cap(b)]
	for i := range b {
		b[i] = '!'
	}
}

func imageAt(t *testing.T, s *Store, id int) []byte {
	t.Helper()
	b, errno := s.Image(id)
	wantErrno(t, "Image", errno, api.OK)
	return b
}

func TestImagesAreNewMemory(t *testing.T) {
	for _, s := range []*Store{New(3), lying(t, full(4, 'o')), cutOff(t, full(4, 'o'), 2, full(9, 'n'), 7)} {
		before := told(t, s)
		for id := range 3 {
			first, second := imageAt(t, s, id), imageAt(t, s, id)
			scribble(first)
			if string(second) != before.images[id] {
				t.Errorf("two answers share memory: %v", second)
			}
			scribble(append(second, "xyz"...))
			want(t, s, before)
		}
		wantErrno(t, "Mend", s.Mend(2, 3), api.OK)
		wantRead(t, s, 0, api.Page{}, api.OK)
		if _, errno := s.Read(1); errno != api.OK {
			t.Errorf("Read of what was mended: %d", errno)
		}
	}
}

func TestAnswersStayWhateverTheStoreIsToldThen(t *testing.T) {
	old, p := full(4, 'o'), full(9, 'n')
	s := lying(t, old)
	b := imageAt(t, s, 1)
	read, _ := s.Read(1)
	s.Write(2, 1, p, 7)
	torn := imageAt(t, s, 1)
	s.Mend(2, 3)
	s.Write(2, 1, full(12, 'x'), whole)
	if string(b) != imageOf(t, 1, old) || string(torn) != mixed(t, 1, p, old) || read != old {
		t.Error("an answer became another one")
	}
}

// A page is handed in and out as a value: neither side's cells are the other's.
func TestPagesAreValues(t *testing.T) {
	s, p := New(1), full(4, 'o')
	s.Write(0, 0, p, whole)
	p.Cells[3] = api.Cell{}
	p.LSN = 99
	wantRead(t, s, 0, full(4, 'o'), api.OK)
	read, _ := s.Read(0)
	read.Cells[0] = api.Cell{Used: true, Value: "other"}
	wantRead(t, s, 0, full(4, 'o'), api.OK)

	p = full(6, 'n')
	s.Write(0, 0, p, 7)
	p.Cells[0] = api.Cell{}
	s.Mend(0, 3)
	wantRead(t, s, 0, full(6, 'n'), api.OK)
}

// R5: a value's bytes are kept as they are, whichever they are.

func TestEveryByteIsKept(t *testing.T) {
	s := New(2)
	lsn := uint64(0)
	for first := 0; first < 256; first += api.MaxValue * api.Slots {
		lsn++
		p := api.Page{LSN: lsn}
		for i := range p.Cells {
			b := make([]byte, api.MaxValue)
			for j := range b {
				b[j] = byte(first + i*api.MaxValue + j)
			}
			p.Cells[i] = api.Cell{Used: true, Value: string(b)}
		}
		p.Cells[int(lsn)] = api.Cell{}
		p.Cells[int(lsn)+1] = api.Cell{Used: true}
		wantErrno(t, "Write", s.Write(0, 1, p, 11), api.ErrLost)
		wantErrno(t, "Mend", s.Mend(0, 3), api.OK)
		wantRead(t, s, 1, p, api.OK)
	}
}

// R6.

func TestStoresAreApart(t *testing.T) {
	first, second := New(3), New(3)
	if first == second {
		t.Fatal("New answers the same store twice")
	}
	before := told(t, second)
	first.Write(0, 1, full(4, 'o'), whole)
	first.Write(2, 1, full(9, 'n'), 7)
	want(t, second, before)
	second.Write(2, 0, full(3, 'x'), 11)
	wantRead(t, first, 1, api.Page{}, api.ErrTorn)
	wantErrno(t, "Mend", first.Mend(2, 3), api.OK)
	wantRead(t, first, 1, full(9, 'n'), api.OK)
	wantOut(t, second, 2)
	wantErrno(t, "Mend", second.Mend(2, 3), api.OK)
	wantRead(t, second, 0, full(3, 'x'), api.OK)
	wantRead(t, second, 1, api.Page{}, api.OK)
}

func TestTheSameWayComesToTheSame(t *testing.T) {
	way := func() []state {
		source, s := rand.New(rand.NewSource(106)), New(3)
		var all []state
		for i := range 300 {
			errno := done(s, anyStep(source, 3, 4, i))
			all = append(all, told(t, s), state{pages: int(errno)})
		}
		return all
	}
	wanted := way()
	for range 3 {
		if !slices.Equal(way(), wanted) {
			t.Fatal("the same way comes to something else")
		}
	}
}
