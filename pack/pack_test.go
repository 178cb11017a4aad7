package pack

import (
	"bytes"
	"fmt"
	"math"
	"strings"
	"testing"

	"quayside/api"
)

var wrongWidths = []int{math.MinInt, -8, -1, 0, 9, 16, 64, math.MaxInt}

func greatest(width int) uint64 {
	return math.MaxUint64 >> (64 - 8*width)
}

// edgeNumbers are the least and the greatest number of a width, those beside
// them, and one whose bytes all differ.
func edgeNumbers(width int) []uint64 {
	return []uint64{0, 1, greatest(width) - 1, greatest(width), 0x0102030405060708 >> (64 - 8*width)}
}

// bytesOf works a number's bytes out by division, another way than the package.
func bytesOf(width int, n uint64) []byte {
	out := make([]byte, width)
	for i := width - 1; i >= 0; i-- {
		out[i] = byte(n % 256)
		n /= 256
	}
	return out
}

// someTexts have 0, 1, 2, 254 and 255 bytes, and all byte values among them.
func someTexts() []string {
	all := make([]byte, 255)
	for i := range all {
		all[i] = byte(255 - i)
	}
	return []string{"", "\x00", "ab", "é\xff", string(all[:254]), string(all)}
}

// withSpare answers b with memory behind its length that holds a mark, and
// the whole of that memory.
func withSpare(b []byte, spare int) ([]byte, []byte) {
	whole := append(bytes.Clone(b), bytes.Repeat([]byte{0xEE}, spare)...)
	return whole[:len(b):len(whole)], whole
}

// P1.1: Fits.

func TestFitsNumbersOfTheWidth(t *testing.T) {
	for width := 1; width <= 8; width++ {
		for _, n := range edgeNumbers(width) {
			if !Fits(width, n) {
				t.Errorf("Fits(%d, %d): false", width, n)
			}
		}
	}
}

func TestFitsRefusesGreaterNumbers(t *testing.T) {
	for width := 1; width <= 7; width++ {
		for _, n := range []uint64{greatest(width) + 1, greatest(width) + 2, 1 << 63, math.MaxUint64} {
			if Fits(width, n) {
				t.Errorf("Fits(%d, %d): true", width, n)
			}
		}
	}
}

func TestFitsRefusesWrongWidths(t *testing.T) {
	for _, width := range wrongWidths {
		for _, n := range []uint64{0, 1, math.MaxUint64} {
			if Fits(width, n) {
				t.Errorf("Fits(%d, %d): true", width, n)
			}
		}
	}
}

// P1.1: Put.

func TestPutWritesTheHighestByteFirst(t *testing.T) {
	tests := []struct {
		b     []byte
		width int
		n     uint64
		want  []byte
	}{
		{nil, 2, 258, []byte{1, 2}},
		{[]byte{}, 2, 258, []byte{1, 2}},
		{[]byte{9}, 2, 258, []byte{9, 1, 2}},
		{nil, 1, 0, []byte{0}},
		{nil, 1, 255, []byte{255}},
		{nil, 2, 256, []byte{1, 0}},
		{[]byte{7, 8}, 3, 1, []byte{7, 8, 0, 0, 1}},
		{nil, 8, 0x0102030405060708, []byte{1, 2, 3, 4, 5, 6, 7, 8}},
		{nil, 8, math.MaxUint64, bytes.Repeat([]byte{255}, 8)},
	}
	for _, c := range tests {
		got, errno := Put(c.b, c.width, c.n)
		if !bytes.Equal(got, c.want) || errno != api.OK {
			t.Errorf("Put(%v, %d, %d): %v, %d", c.b, c.width, c.n, got, errno)
		}
	}
}

func TestPutWritesEachWidth(t *testing.T) {
	for width := 1; width <= 8; width++ {
		for _, n := range edgeNumbers(width) {
			want := append([]byte{3, 4}, bytesOf(width, n)...)
			got, errno := Put([]byte{3, 4}, width, n)
			if !bytes.Equal(got, want) || errno != api.OK {
				t.Errorf("Put(.., %d, %d): %v, %d", width, n, got, errno)
			}
		}
	}
}

func TestPutRefusesWhatDoesNotFit(t *testing.T) {
	refused := func(width int, n uint64) {
		t.Helper()
		got, errno := Put([]byte{1}, width, n)
		if len(got) != 0 || errno != api.ErrArg {
			t.Errorf("Put([1], %d, %d): %v, %d", width, n, got, errno)
		}
	}
	for _, width := range wrongWidths {
		refused(width, 0)
		refused(width, math.MaxUint64)
	}
	for width := 1; width <= 7; width++ {
		refused(width, greatest(width)+1)
		refused(width, math.MaxUint64)
	}
}

// P1.1: Take.

func TestTakeReadsEachWidthAtEachPlace(t *testing.T) {
	b := []byte{1, 2, 3, 255, 0, 254, 7, 128, 9, 10, 0}
	for width := 1; width <= 8; width++ {
		for at := 0; at+width <= len(b); at++ {
			n, errno := Take(b, at, width)
			if errno != api.OK || !bytes.Equal(bytesOf(width, n), b[at:at+width]) || !Fits(width, n) {
				t.Errorf("Take(.., %d, %d): %d, %d", at, width, n, errno)
			}
		}
	}
	if n, errno := Take([]byte{1, 2, 3}, 1, 2); n != 515 || errno != api.OK {
		t.Errorf("Take([1 2 3], 1, 2): %d, %d", n, errno)
	}
}

func TestTakeRefusesWrongArguments(t *testing.T) {
	refused := func(b []byte, at, width int) {
		t.Helper()
		if n, errno := Take(b, at, width); n != 0 || errno != api.ErrArg {
			t.Errorf("Take(%v, %d, %d): %d, %d", b, at, width, n, errno)
		}
	}
	full := bytes.Repeat([]byte{5}, 20)
	for _, width := range wrongWidths {
		// ErrArg is named first: it holds also where the bytes are too few.
		for _, at := range []int{math.MinInt, -1, 0, 19, 20, 21, math.MaxInt} {
			refused(full, at, width)
			refused(nil, at, width)
		}
	}
	for width := 1; width <= 8; width++ {
		for _, at := range []int{math.MinInt, math.MinInt + 1, -9, -1} {
			refused(full, at, width)
			refused(nil, at, width)
		}
	}
}

func TestTakeTellsTooFewBytes(t *testing.T) {
	short := func(b []byte, at, width int) {
		t.Helper()
		if n, errno := Take(b, at, width); n != 0 || errno != api.ErrShort {
			t.Errorf("Take(%v, %d, %d): %d, %d", b, at, width, n, errno)
		}
	}
	short([]byte{1, 2, 3}, 2, 2)
	b := bytes.Repeat([]byte{5}, 10)
	for width := 1; width <= 8; width++ {
		for _, at := range []int{10 - width + 1, 10, 11, math.MaxInt - 1, math.MaxInt} {
			short(b, at, width)
		}
		short(nil, 0, width)
		short([]byte{}, 0, width)
		short(nil, 1, width)
	}
}

// P1.2: PutText.

func TestPutTextWritesLengthAndBytes(t *testing.T) {
	for _, s := range someTexts() {
		for _, b := range [][]byte{nil, {}, {9}, {0, 255, 1}} {
			want := append(bytes.Clone(b), byte(len(s)))
			want = append(want, []byte(s)...)
			got, errno := PutText(b, s)
			if !bytes.Equal(got, want) || errno != api.OK {
				t.Errorf("PutText(%v, %q): %v, %d", b, s, got, errno)
			}
		}
	}
	if got, errno := PutText(nil, "ab"); string(got) != "\x02ab" || errno != api.OK {
		t.Errorf("PutText(nil, ab): %v, %d", got, errno)
	}
}

func TestPutTextRefusesLongTexts(t *testing.T) {
	for _, size := range []int{256, 257, 511, 512, 65536} {
		got, errno := PutText([]byte{1}, strings.Repeat("x", size))
		if len(got) != 0 || errno != api.ErrArg {
			t.Errorf("PutText of %d bytes: %d bytes, %d", size, len(got), errno)
		}
	}
	// The length counts bytes, not runes.
	if _, errno := PutText(nil, strings.Repeat("é", 128)); errno != api.ErrArg {
		t.Errorf("PutText of 128 runes of two bytes each: %d", errno)
	}
}

// P1.2: TakeText.

func TestTakeTextReadsTextAndPlaceBehind(t *testing.T) {
	tests := []struct {
		b    string
		at   int
		want string
		end  int
	}{
		{"\x02ab", 0, "ab", 3},
		{"\x02abc", 0, "ab", 3},
		{"x\x02ab", 1, "ab", 4},
		{"\x00", 0, "", 1},
		{"\x00\x01z", 0, "", 1},
		{"\x00\x01z", 1, "z", 3},
		{"\x01\xff", 0, "\xff", 2},
		{"ab\x00", 2, "", 3},
	}
	for _, c := range tests {
		got, end, errno := TakeText([]byte(c.b), c.at)
		if got != c.want || end != c.end || errno != api.OK {
			t.Errorf("TakeText(%q, %d): %q, %d, %d", c.b, c.at, got, end, errno)
		}
	}
}

func TestTakeTextRefusesPlacesBelowZero(t *testing.T) {
	for _, b := range [][]byte{nil, {}, {0}, {1, 97}} {
		for _, at := range []int{math.MinInt, -2, -1} {
			if s, end, errno := TakeText(b, at); s != "" || end != 0 || errno != api.ErrArg {
				t.Errorf("TakeText(%v, %d): %q, %d, %d", b, at, s, end, errno)
			}
		}
	}
}

func TestTakeTextTellsTooFewBytes(t *testing.T) {
	short := func(b []byte, at int) {
		t.Helper()
		if s, end, errno := TakeText(b, at); s != "" || end != 0 || errno != api.ErrShort {
			t.Errorf("TakeText(%v, %d): %q, %d, %d", b, at, s, end, errno)
		}
	}
	for _, at := range []int{0, 1, math.MaxInt} {
		short(nil, at)
		short([]byte{}, at)
	}
	for _, at := range []int{3, 4, math.MaxInt - 1, math.MaxInt} {
		short([]byte{2, 97, 98}, at)
	}
	short([]byte{2, 97}, 0)
	short([]byte{1}, 0)
	short([]byte{0, 1}, 1)
	short([]byte{97, 2, 98}, 1)
	for _, s := range someTexts() {
		whole := append([]byte{byte(len(s))}, s...)
		for size := range len(whole) {
			short(whole[:size:size], 0)
		}
	}
}

// P1.3.

func TestNumbersPutAreTaken(t *testing.T) {
	for width := 1; width <= 8; width++ {
		for _, n := range edgeNumbers(width) {
			for ahead := range 10 {
				b := bytes.Repeat([]byte{0xA5}, ahead)
				out, _ := Put(b, width, n)
				for behind := range 10 {
					full := append(bytes.Clone(out), bytes.Repeat([]byte{0x5A}, behind)...)
					if got, errno := Take(full, len(b), width); got != n || errno != api.OK {
						t.Errorf("%d of the width %d, %d bytes ahead, %d behind: %d, %d", n, width, ahead, behind, got, errno)
					}
				}
			}
		}
	}
}

func TestTextsPutAreTaken(t *testing.T) {
	for _, s := range someTexts() {
		for ahead := range 10 {
			b := bytes.Repeat([]byte{0xA5}, ahead)
			out, _ := PutText(b, s)
			for behind := range 10 {
				full := append(bytes.Clone(out), bytes.Repeat([]byte{0x5A}, behind)...)
				got, end, errno := TakeText(full, len(b))
				if got != s || end != len(out) || errno != api.OK {
					t.Errorf("a text of %d bytes, %d bytes ahead, %d behind: %q, %d, %d", len(s), ahead, behind, got, end, errno)
				}
			}
		}
	}
}

func TestManyPutOneBehindTheOtherAreTaken(t *testing.T) {
	var b []byte
	var places []int
	texts := someTexts()
	for i, s := range texts {
		places = append(places, len(b))
		b, _ = Put(b, i+1, greatest(i+1))
		b, _ = PutText(b, s)
	}
	for i, at := range places {
		n, errno := Take(b, at, i+1)
		if n != greatest(i+1) || errno != api.OK {
			t.Errorf("number %d: %d, %d", i, n, errno)
		}
		s, end, errno := TakeText(b, at+i+1)
		if s != texts[i] || errno != api.OK {
			t.Errorf("text %d: %q, %d", i, s, errno)
		}
		if i+1 < len(places) && end != places[i+1] {
			t.Errorf("text %d ends at %d, not at %d", i, end, places[i+1])
		}
	}
}

// R3.

// putters puts something behind b, once by each call that does.
func putters() map[string]func(b []byte) []byte {
	return map[string]func(b []byte) []byte{
		"Put": func(b []byte) []byte {
			out, _ := Put(b, 3, 0x010203)
			return out
		},
		"PutText": func(b []byte) []byte {
			out, _ := PutText(b, "text")
			return out
		},
		"PutText of nothing": func(b []byte) []byte {
			out, _ := PutText(b, "")
			return out
		},
		"Put refused": func(b []byte) []byte {
			out, _ := Put(b, 1, 256)
			return out
		},
		"PutText refused": func(b []byte) []byte {
			out, _ := PutText(b, strings.Repeat("x", 256))
			return out
		},
	}
}

func TestPuttingLeavesTheArgumentAndWhatLiesBehind(t *testing.T) {
	for name, put := range putters() {
		for size := range 4 {
			b, whole := withSpare(bytes.Repeat([]byte{7}, size), 300)
			before := bytes.Clone(whole)
			put(b)
			if !bytes.Equal(whole, before) {
				t.Errorf("%s behind %d bytes wrote into the argument's memory", name, size)
			}
		}
	}
}

func TestPuttingAnswersNewMemory(t *testing.T) {
	for name, put := range putters() {
		for size := range 4 {
			b, whole := withSpare(bytes.Repeat([]byte{7}, size), 300)
			before := bytes.Clone(whole)
			first, second := put(b), put(b)
			want := bytes.Clone(second)
			first = first[:cap(first)]
			for i := range first {
				first[i] = 0x33
			}
			if !bytes.Equal(whole, before) {
				t.Errorf("%s behind %d bytes: the answer shares memory with the argument", name, size)
			}
			for i := range whole {
				whole[i] = 0x44
			}
			if !bytes.Equal(second, want) {
				t.Errorf("%s behind %d bytes: the answer shares memory with the argument or with another answer", name, size)
			}
		}
	}
}

func TestTakingLeavesTheArgumentAndWhatLiesBehind(t *testing.T) {
	b, whole := withSpare([]byte{2, 97, 98}, 20)
	before := bytes.Clone(whole)
	for width := -1; width <= 9; width++ {
		for at := -1; at <= 25; at++ {
			Take(b, at, width)
			TakeText(b, at)
		}
	}
	if !bytes.Equal(whole, before) {
		t.Errorf("the argument's memory was %v, is %v", before, whole)
	}
}

func TestTakingDoesNotReadBehindTheLength(t *testing.T) {
	b, _ := withSpare([]byte{2, 97}, 20)
	for width := 1; width <= 8; width++ {
		for at := 3 - width; at <= 4; at++ {
			if at < 0 {
				continue
			}
			if n, errno := Take(b, at, width); n != 0 || errno != api.ErrShort {
				t.Errorf("Take at %d of the width %d: %d, %d", at, width, n, errno)
			}
		}
	}
	for _, at := range []int{0, 1, 2, 3} {
		if s, end, errno := TakeText(b, at); s != "" || end != 0 || errno != api.ErrShort {
			t.Errorf("TakeText at %d: %q, %d, %d", at, s, end, errno)
		}
	}
}

func TestTakeTextAnswersNewMemory(t *testing.T) {
	b := []byte("\x05hello")
	s, _, _ := TakeText(b, 0)
	for i := range b {
		b[i] = 'x'
	}
	if s != "hello" {
		t.Errorf("the text became %q with the bytes it was taken from", s)
	}
}

// R1, R2 and R6.

func TestAnswersAtAllArguments(t *testing.T) {
	lists := [][]byte{nil, {}, {0}, {3}, {1, 97}, {2, 97}, bytes.Repeat([]byte{255}, 300)}
	ints := append([]int{1, 2, 4, 7, 8, 255, 256, 299, 300, 301, math.MaxInt - 1, math.MaxInt - 8}, wrongWidths...)
	tell := func(b []byte, i, k int) string {
		put, e1 := Put(b, i, uint64(k))
		n, e2 := Take(b, i, k)
		s, end, e3 := TakeText(b, i)
		if e1 != api.OK && len(put) != 0 {
			t.Errorf("Put(%v, %d, %d) answers bytes beside %d", b, i, k, e1)
		}
		if e2 != api.OK && n != 0 {
			t.Errorf("Take(%v, %d, %d) answers %d beside %d", b, i, k, n, e2)
		}
		if e3 != api.OK && (s != "" || end != 0) {
			t.Errorf("TakeText(%v, %d) answers %q, %d beside %d", b, i, s, end, e3)
		}
		return fmt.Sprint(Fits(i, uint64(k)), put, e1, n, e2, s, end, e3)
	}
	for _, b := range lists {
		for _, i := range ints {
			for _, k := range ints {
				if first, again := tell(b, i, k), tell(b, i, k); first != again {
					t.Errorf("asked twice: %s, %s", first, again)
				}
			}
		}
	}
}
