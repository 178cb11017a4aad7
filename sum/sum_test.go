package sum

import (
	"bytes"
	"fmt"
	"hash/crc32"
	"math/bits"
	"math/rand"
	"testing"

	"quayside/api"
)

// someLists have all lengths up to 9, some about the sizes that layers above
// seal, and one of many bytes; among them are all byte values, bytes 0 and
// bytes 255 alone.
func someLists() [][]byte {
	source := rand.New(rand.NewSource(2))
	lists := [][]byte{nil, {}, {0}, {255}, make([]byte, 40), bytes.Repeat([]byte{255}, 40), []byte("123456789")}
	for _, size := range []int{1, 2, 3, 4, 5, 6, 7, 8, 9, 31, 32, 33, 127, 128, 236, 256, 5000} {
		lists = append(lists, randomBytes(source, size))
	}
	all := make([]byte, 256)
	for i := range all {
		all[i] = byte(i)
	}
	return append(lists, all)
}

func randomBytes(source *rand.Rand, size int) []byte {
	b := make([]byte, size)
	source.Read(b)
	return b
}

// withSpare answers b with memory behind its length that holds a mark, and
// the whole of that memory.
func withSpare(b []byte, spare int) ([]byte, []byte) {
	whole := append(bytes.Clone(b), bytes.Repeat([]byte{0xEE}, spare)...)
	return whole[:len(b):len(whole)], whole
}

// turned answers b with the pattern's bits turned, from the bit on; bits are
// counted byte by byte, in each from the lowest on.
func turned(b []byte, bit int, pattern uint64) []byte {
	out := bytes.Clone(b)
	for i := range 64 {
		if pattern>>i&1 == 1 {
			out[(bit+i)/8] ^= 1 << ((bit + i) % 8)
		}
	}
	return out
}

// P2.1: Of and More.

func TestOfExamples(t *testing.T) {
	tests := []struct {
		b    string
		want uint32
	}{
		{"", 0},
		{"123456789", 0xCBF43926},
		{"\x00", 0xD202EF8D},
		{"\xff", 0xFF000000},
		{"\xff\xff\xff\xff", 0xFFFFFFFF},
		{"a", 0xE8B7BE43},
		{"The quick brown fox jumps over the lazy dog", 0x414FA339},
	}
	for _, c := range tests {
		if got := Of([]byte(c.b)); got != c.want {
			t.Errorf("Of(%q): %X, not %X", c.b, got, c.want)
		}
	}
	if got := Of(nil); got != 0 {
		t.Errorf("Of(nil): %X", got)
	}
}

func TestOfIsTheSum(t *testing.T) {
	for _, b := range someLists() {
		if got, want := Of(b), crc32.ChecksumIEEE(b); got != want {
			t.Errorf("Of of %d bytes: %X, not %X", len(b), got, want)
		}
	}
	for c := range 256 {
		b := []byte{byte(c)}
		if got, want := Of(b), crc32.ChecksumIEEE(b); got != want {
			t.Errorf("Of(%v): %X, not %X", b, got, want)
		}
	}
}

func TestMoreBeginsWithTheSumsBitsTurned(t *testing.T) {
	for _, s := range []uint32{0, 1, 0x80000000, 0x7FFFFFFF, 0xFFFFFFFF, 0xCBF43926, 0xEDB88320} {
		for _, b := range someLists() {
			if got, want := More(s, b), crc32.Update(s, crc32.IEEETable, b); got != want {
				t.Errorf("More(%X, %d bytes): %X, not %X", s, len(b), got, want)
			}
		}
		if got := More(s, nil); got != s {
			t.Errorf("More(%X, nil): %X", s, got)
		}
	}
}

// P2.2.

func TestTheSumOfTwoListsIsMoreOfTheFirstOnesSum(t *testing.T) {
	for _, b := range someLists() {
		whole := Of(b)
		for border := 0; border <= len(b) && border <= 300; border++ {
			if got := More(Of(b[:border]), b[border:]); got != whole {
				t.Errorf("%d bytes parted at %d: %X, not %X", len(b), border, got, whole)
			}
		}
	}
}

func TestSumsOfManyListsOneBehindTheOther(t *testing.T) {
	var whole []byte
	var s uint32
	for _, b := range someLists() {
		whole = append(whole, b...)
		s = More(s, b)
		if want := Of(whole); s != want {
			t.Errorf("%d bytes piece by piece: %X, not %X", len(whole), s, want)
		}
	}
}

// P2.1: Seal.

func TestSealPutsTheSumBehindTheLowestByteFirst(t *testing.T) {
	tests := []struct{ b, want string }{
		{"", "\x00\x00\x00\x00"},
		{"123456789", "123456789\x26\x39\xf4\xcb"},
		{"\x00", "\x00\x8d\xef\x02\xd2"},
		{"\xff", "\xff\x00\x00\x00\xff"},
	}
	for _, c := range tests {
		if got := Seal([]byte(c.b)); string(got) != c.want {
			t.Errorf("Seal(%q): %q, not %q", c.b, got, c.want)
		}
	}
	if got := Seal(nil); !bytes.Equal(got, make([]byte, 4)) {
		t.Errorf("Seal(nil): %v", got)
	}
	for _, b := range someLists() {
		s := crc32.ChecksumIEEE(b)
		want := append(bytes.Clone(b), byte(s), byte(s>>8), byte(s>>16), byte(s>>24))
		if got := Seal(b); !bytes.Equal(got, want) {
			t.Errorf("Seal of %d bytes: %v, not %v", len(b), got, want)
		}
	}
}

// P2.1: Open.

func TestOpenAnswersTheBytesAhead(t *testing.T) {
	for _, b := range someLists() {
		got, errno := Open(Seal(b))
		if !bytes.Equal(got, b) || errno != api.OK {
			t.Errorf("Open of %d sealed bytes: %v, %d", len(b), got, errno)
		}
	}
	if got, errno := Open([]byte("123456789\x26\x39\xf4\xcb")); string(got) != "123456789" || errno != api.OK {
		t.Errorf("Open: %q, %d", got, errno)
	}
}

func TestOpenTellsFewerThanFourBytes(t *testing.T) {
	for _, b := range [][]byte{nil, {}, {0}, {0, 0}, {0, 0, 0}, {255, 255, 255}, []byte("abc")} {
		if got, errno := Open(b); len(got) != 0 || errno != api.ErrShort {
			t.Errorf("Open(%v): %v, %d", b, got, errno)
		}
	}
}

func TestOpenOfFourAndOfFiveBytes(t *testing.T) {
	tests := []struct {
		b     string
		want  string
		errno api.Errno
	}{
		{"\x00\x00\x00\x00", "", api.OK},
		{"\x01\x00\x00\x00", "", api.ErrSum},
		{"\x00\x00\x00\x80", "", api.ErrSum},
		{"\xff\xff\xff\xff", "", api.ErrSum},
		{"abcd", "", api.ErrSum},
		{"\xff\x00\x00\x00\xff", "\xff", api.OK},
		{"\x00\x8d\xef\x02\xd2", "\x00", api.OK},
		{"\x00\xd2\x02\xef\x8d", "", api.ErrSum},
		{"\x8d\xef\x02\xd2\x00", "", api.ErrSum},
		{"\x00\x00\x00\x00\x00", "", api.ErrSum},
		{"abcde", "", api.ErrSum},
	}
	for _, c := range tests {
		if got, errno := Open([]byte(c.b)); string(got) != c.want || errno != c.errno {
			t.Errorf("Open(%q): %q, %d", c.b, got, errno)
		}
	}
}

func TestOpenHoldsAllFourBytesAgainstTheSum(t *testing.T) {
	sealed := Seal([]byte("sealed"))
	for at := len(sealed) - 4; at < len(sealed); at++ {
		for c := range 256 {
			b := bytes.Clone(sealed)
			b[at] = byte(c)
			want := api.ErrSum
			if byte(c) == sealed[at] {
				want = api.OK
			}
			if got, errno := Open(b); errno != want || errno != api.OK && len(got) != 0 {
				t.Errorf("Open with the byte %d being %d: %v, %d", at, c, got, errno)
			}
		}
	}
}

func TestOpenTellsBytesCutOffOrPutBehind(t *testing.T) {
	sealed := Seal([]byte("123456789"))
	for size := range len(sealed) {
		want := api.ErrSum
		if size < 4 {
			want = api.ErrShort
		}
		if got, errno := Open(sealed[:size:size]); len(got) != 0 || errno != want {
			t.Errorf("Open of the first %d bytes: %v, %d", size, got, errno)
		}
	}
	if got, errno := Open(append(bytes.Clone(sealed), 0)); len(got) != 0 || errno != api.ErrSum {
		t.Errorf("Open with a byte 0 behind: %v, %d", got, errno)
	}
}

// What Open asks of bytes is their sum alone: turning the polynomial's own 33
// bits side by side leaves them sealed, and one bit fewer does not.
func TestOpenOfOtherSealedBytes(t *testing.T) {
	const pattern = 1 | uint64(0xEDB88320)<<1
	sealed := Seal([]byte("123456789"))
	for bit := 0; bit+33 <= 8*len(sealed); bit++ {
		other := turned(sealed, bit, pattern)
		if got, errno := Open(other); !bytes.Equal(got, other[:9]) || errno != api.OK {
			t.Errorf("33 bits turned from %d on: %v, %d", bit, got, errno)
		}
		if got, errno := Open(turned(sealed, bit, pattern&^(1<<32))); len(got) != 0 || errno != api.ErrSum {
			t.Errorf("bits turned from %d on: %v, %d", bit, got, errno)
		}
	}
}

// P2.3.

// patterns are bits within 32 side by side of which the first is turned.
func patterns() []uint64 {
	source := rand.New(rand.NewSource(23))
	out := []uint64{0xFFFFFFFF, 0xEDB88321, 0xDB710641, 0x55555555, 0x01010101, 0x80000001}
	for i := range 32 {
		out = append(out, 1|1<<i, 1<<(i+1)-1, uint64(source.Uint32())|1)
	}
	return out
}

func TestTurnedBitsAreNotOpened(t *testing.T) {
	all := patterns()
	for _, b := range someLists() {
		if len(b) > 40 {
			continue
		}
		sealed := Seal(b)
		for bit := range 8 * len(sealed) {
			for _, pattern := range all {
				if bit+bits.Len64(pattern) > 8*len(sealed) {
					continue
				}
				if got, errno := Open(turned(sealed, bit, pattern)); len(got) != 0 || errno != api.ErrSum {
					t.Errorf("%d bytes, bits %X turned from %d on: %v, %d", len(b), pattern, bit, got, errno)
				}
			}
		}
	}
}

func TestTurnedBitsAtThePlacesThatMatter(t *testing.T) {
	sealed := Seal(randomBytes(rand.New(rand.NewSource(3)), 236))
	end := 8 * len(sealed)
	places := map[string]int{
		"at the first byte":                    0,
		"behind the first byte":                8,
		"in the midst":                         1001,
		"at the last byte ahead of the sum":    end - 40,
		"at the last bit ahead of the sum":     end - 33,
		"across the border, half ahead of it":  end - 48,
		"across the border, one bit behind it": end - 63,
		"the sum's own":                        end - 32,
	}
	for name, bit := range places {
		for _, pattern := range patterns() {
			if got, errno := Open(turned(sealed, bit, pattern)); len(got) != 0 || errno != api.ErrSum {
				t.Errorf("bits %X turned %s: %d bytes, %d", pattern, name, len(got), errno)
			}
		}
	}
	for bit := end - 31; bit < end; bit++ {
		for size := 1; bit+size <= end; size++ {
			if got, errno := Open(turned(sealed, bit, 1<<size-1)); len(got) != 0 || errno != api.ErrSum {
				t.Errorf("%d bits turned from %d on: %d bytes, %d", size, bit, len(got), errno)
			}
		}
	}
}

// P2.4.

func xorOf(lists ...[]byte) []byte {
	out := make([]byte, len(lists[0]))
	for _, b := range lists {
		for i, c := range b {
			out[i] ^= c
		}
	}
	return out
}

func TestFourListsOfWhichEachBytesXorIsZero(t *testing.T) {
	source := rand.New(rand.NewSource(24))
	for size := range 70 {
		a, b, c := randomBytes(source, size), randomBytes(source, size), randomBytes(source, size)
		zero, full := make([]byte, size), bytes.Repeat([]byte{255}, size)
		fours := [][4][]byte{
			{a, b, c, xorOf(a, b, c)},
			{a, b, zero, xorOf(a, b)},
			{a, full, zero, xorOf(a, full)},
			{a, b, b, a},
			{a, a, a, a},
			{zero, full, full, zero},
		}
		for i, four := range fours {
			if got := Of(four[0]) ^ Of(four[1]) ^ Of(four[2]) ^ Of(four[3]); got != 0 {
				t.Errorf("four lists of %d bytes, number %d: the sums' xor is %X", size, i, got)
			}
		}
	}
}

// R3.

func TestCallsLeaveTheArgumentAndWhatLiesBehind(t *testing.T) {
	for _, list := range someLists() {
		for _, content := range [][]byte{list, Seal(list)} {
			b, whole := withSpare(content, 20)
			before := bytes.Clone(whole)
			Of(b)
			More(7, b)
			Seal(b)
			Open(b)
			if !bytes.Equal(whole, before) {
				t.Errorf("a call wrote into the memory of an argument of %d bytes", len(b))
			}
		}
	}
}

func TestWhatLiesBehindIsNotRead(t *testing.T) {
	for _, content := range someLists() {
		b, _ := withSpare(content, 20)
		if Of(b) != Of(content) || More(7, b) != More(7, content) || !bytes.Equal(Seal(b), Seal(content)) {
			t.Errorf("what lies behind %d bytes plays a part in their sum", len(b))
		}
		sealed, _ := withSpare(Seal(content), 20)
		if got, errno := Open(sealed); !bytes.Equal(got, content) || errno != api.OK {
			t.Errorf("what lies behind %d sealed bytes plays a part: %v, %d", len(content), got, errno)
		}
	}
	for size := range 4 {
		// Of four bytes 0 the opening would be right.
		if got, errno := Open(make([]byte, 4)[:size]); len(got) != 0 || errno != api.ErrShort {
			t.Errorf("Open of %d bytes 0 with more behind: %v, %d", size, got, errno)
		}
	}
	sealed := Seal([]byte("abc"))
	if got, errno := Open(sealed[:6]); len(got) != 0 || errno != api.ErrSum {
		t.Errorf("Open of sealed bytes but the last: %v, %d", got, errno)
	}
}

func TestAnswersAreNewMemory(t *testing.T) {
	open := func(b []byte) []byte {
		out, _ := Open(b)
		return out
	}
	for _, list := range someLists() {
		for name, call := range map[string]func([]byte) []byte{"Seal": Seal, "Open": open} {
			b, whole := withSpare(Seal(list), 20)
			before := bytes.Clone(whole)
			first, second := call(b), call(b)
			want := bytes.Clone(second)
			first = first[:cap(first)]
			for i := range first {
				first[i] ^= 0x33
			}
			if !bytes.Equal(whole, before) {
				t.Errorf("%s of %d bytes: the answer shares memory with the argument", name, len(b))
			}
			for i := range whole {
				whole[i] ^= 0x44
			}
			if !bytes.Equal(second, want) {
				t.Errorf("%s of %d bytes: the answer shares memory with the argument or with another answer", name, len(b))
			}
		}
	}
}

// R1, R2, R4 and R6.

func TestAnswersAreTheSameWheneverAsked(t *testing.T) {
	var told []string
	tell := func(b []byte) string {
		opened, errno := Open(b)
		if errno != api.OK && len(opened) != 0 {
			t.Errorf("Open of %d bytes answers bytes beside %d", len(b), errno)
		}
		return fmt.Sprint(Of(b), More(5, b), Seal(b), opened, errno)
	}
	lists := someLists()
	for _, b := range lists {
		told = append(told, tell(b), tell(Seal(b)))
	}
	for i := len(lists) - 1; i >= 0; i-- {
		if tell(Seal(lists[i])) != told[2*i+1] || tell(lists[i]) != told[2*i] {
			t.Errorf("another answer for the list %d when asked again", i)
		}
	}
	if tell(nil) != tell([]byte{}) {
		t.Error("no list and an empty one differ")
	}
}
