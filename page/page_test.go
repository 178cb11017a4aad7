package page

import (
	"bytes"
	"encoding/binary"
	"fmt"
	"hash/crc32"
	"math"
	"math/rand"
	"slices"
	"strings"
	"testing"

	"quayside/api"
)

const maxLSN = api.MaxLSN

var (
	rightLSNs = []uint64{0, 1, 7, 255, 256, 1 << 32, 0x0102030405060708, api.TopLSN, maxLSN - 1, maxLSN}
	wrongLSNs = []uint64{maxLSN + 1, maxLSN + 2, 1 << 63, math.MaxUint64 - 1, math.MaxUint64}
	// Of some of wrongIDs the last byte, or the last two, are a page's number.
	wrongIDs = []int{math.MinInt, math.MinInt + 3, -65533, -253, -32, -1, 32, 33, 255, 256, 259, 65535, 65536, 65539, 1<<32 + 3, math.MaxInt}
	// otherSizes are numbers of bytes that no image has.
	otherSizes = []int{0, 1, 7, 8, 127, 128, 129, 136, 240, 254, 255, 257, 258, 384, 512}
)

func used(value string) api.Cell {
	return api.Cell{Used: true, Value: value}
}

// everyCell is a page of which each cell is the same.
func everyCell(lsn uint64, c api.Cell) api.Page {
	p := api.Page{LSN: lsn}
	for i := range p.Cells {
		p.Cells[i] = c
	}
	return p
}

// someCells are a cell that isn't used, and used ones with values of 0 to
// MaxValue bytes, bytes 0 and bytes 255 among them.
func someCells() []api.Cell {
	return []api.Cell{
		{},
		used(""),
		used("\x00"),
		used("a"),
		used("\xff\x00\xff"),
		used(strings.Repeat("y", api.MaxValue-1)),
		used(strings.Repeat("\x00", api.MaxValue)),
		used(strings.Repeat("z", api.MaxValue)),
	}
}

func randomPage(source *rand.Rand) api.Page {
	p := api.Page{LSN: rightLSNs[source.Intn(len(rightLSNs))]}
	cells := someCells()
	for i := range p.Cells {
		p.Cells[i] = cells[source.Intn(len(cells))]
	}
	return p
}

// rightPages are pages with each right LSN, with none and with all cells
// used, with each cell of someCells in each slot alone, and some at random.
func rightPages() []api.Page {
	var pages []api.Page
	for _, lsn := range rightLSNs {
		for _, c := range someCells() {
			pages = append(pages, everyCell(lsn, c))
		}
	}
	for slot := range api.Slots {
		for _, c := range someCells() {
			p := api.Page{LSN: 9}
			p.Cells[slot] = c
			pages = append(pages, p)
		}
	}
	source := rand.New(rand.NewSource(4))
	for range 200 {
		pages = append(pages, randomPage(source))
	}
	return pages
}

// wrongPages differ from right ones by one thing alone.
func wrongPages() []api.Page {
	var pages []api.Page
	for _, lsn := range wrongLSNs {
		pages = append(pages, api.Page{LSN: lsn}, everyCell(lsn, used("ab")))
	}
	for slot := range api.Slots {
		for _, size := range []int{1, 2, api.MaxValue, api.MaxValue + 1, 255, 256, 300} {
			value := strings.Repeat("v", size)
			p, q := everyCell(5, used("k")), api.Page{}
			p.Cells[slot] = api.Cell{Value: value}
			q.Cells[slot] = api.Cell{Value: value}
			pages = append(pages, p, q)
			if size > api.MaxValue {
				p.Cells[slot].Used = true
				q.Cells[slot].Used = true
				pages = append(pages, p, q)
			}
		}
	}
	return pages
}

// sealedImage is 256 bytes with these stamps, whose tale is what is told and
// its right sum.
func sealedImage(first, second uint64, told []byte) []byte {
	tale := binary.LittleEndian.AppendUint32(bytes.Clone(told), crc32.ChecksumIEEE(told))
	b := binary.BigEndian.AppendUint64(nil, first)
	b = append(b, tale[:120]...)
	b = binary.BigEndian.AppendUint64(b, second)
	return append(b, tale[120:]...)
}

// toldOf is the first 236 bytes of the tale that the document asks for.
func toldOf(id int, p api.Page) []byte {
	told := make([]byte, 236)
	told[0], told[1] = byte(id/256), byte(id%256)
	at := 10
	for i, c := range p.Cells {
		told[2+i] = 255
		if c.Used {
			told[2+i] = byte(len(c.Value))
			at += copy(told[at:], c.Value)
		}
	}
	return told
}

// imageOf is the image that the document asks for, made another way than the
// package's.
func imageOf(id int, p api.Page) []byte {
	return sealedImage(p.LSN, p.LSN, toldOf(id, p))
}

func wantPage(t *testing.T, what string, id int, b []byte, want api.Page) {
	t.Helper()
	if got, errno := Decode(id, b); got != want || errno != api.OK {
		t.Errorf("Decode of %s as %d: %#v, %d, not %#v", what, id, got, errno, want)
	}
}

func wantRefused(t *testing.T, what string, id int, b []byte, want api.Errno) {
	t.Helper()
	if got, errno := Decode(id, b); got != (api.Page{}) || errno != want {
		t.Errorf("Decode of %s as %d: %#v, %d, not %d", what, id, got, errno, want)
	}
}

// withSpare answers b with memory behind its length that holds a mark, and
// the whole of that memory.
func withSpare(b []byte, spare int) ([]byte, []byte) {
	whole := append(bytes.Clone(b), bytes.Repeat([]byte{0xEE}, spare)...)
	return whole[:len(b):len(whole)], whole
}

// P4.1: Right.

func TestRightPagesAreRight(t *testing.T) {
	for _, p := range rightPages() {
		if !Right(p) {
			t.Errorf("Right(%#v): false", p)
		}
	}
	if !Right(api.Page{}) {
		t.Error("the zero Page isn't right")
	}
}

func TestWrongPagesAreNotRight(t *testing.T) {
	for _, p := range wrongPages() {
		if Right(p) {
			t.Errorf("Right(%#v): true", p)
		}
	}
}

func TestAValuesBytesAreCountedNotItsRunes(t *testing.T) {
	if !Right(everyCell(1, used(strings.Repeat("é", api.MaxValue/2)))) {
		t.Error("10 runes of two bytes each: false")
	}
	if Right(everyCell(1, used(strings.Repeat("é", api.MaxValue/2+1)))) {
		t.Error("11 runes of two bytes each: true")
	}
}

// P4.1: Encode.

func TestEncodeExample(t *testing.T) {
	got, errno := Encode(3, api.Page{LSN: 7})
	if errno != api.OK || len(got) != 256 {
		t.Fatalf("Encode: %d bytes, %d", len(got), errno)
	}
	stamp := []byte{0, 0, 0, 0, 0, 0, 0, 7}
	want := slices.Concat(stamp, []byte{0, 3}, bytes.Repeat([]byte{255}, 8), make([]byte, 110), stamp, make([]byte, 116))
	if !bytes.Equal(got[:252], want) {
		t.Errorf("Encode: %v, not %v", got, want)
	}
	told := slices.Concat(got[8:128], got[136:252])
	if sum := binary.LittleEndian.Uint32(got[252:]); sum != crc32.ChecksumIEEE(told) {
		t.Errorf("the sum: %X", sum)
	}
}

func TestEncodeWritesTheUsedCellsOneBehindTheOther(t *testing.T) {
	p := api.Page{LSN: 0x0102030405060708}
	p.Cells[1] = used("ab")
	p.Cells[4] = used("")
	p.Cells[7] = used("\x00c")
	got, errno := Encode(31, p)
	want := "\x01\x02\x03\x04\x05\x06\x07\x08" + "\x00\x1f" + "\xff\x02\xff\xff\x00\xff\xff\x02" + "ab\x00c\x00"
	if errno != api.OK || !strings.HasPrefix(string(got), want) {
		t.Errorf("Encode: %d, %v", errno, got)
	}
	if !bytes.Equal(got[128:136], got[:8]) {
		t.Errorf("the second stamp: %v", got[128:136])
	}
}

// The longest values go over from the first sector into the second one.
func TestEncodeOfTheLongestValues(t *testing.T) {
	p := api.Page{LSN: maxLSN}
	all := ""
	for i := range p.Cells {
		value := strings.Repeat(string(rune('a'+i)), api.MaxValue)
		p.Cells[i] = used(value)
		all += value
	}
	got, errno := Encode(0, p)
	if errno != api.OK || len(got) != 256 {
		t.Fatalf("Encode: %d bytes, %d", len(got), errno)
	}
	if string(got[18:128]) != all[:110] || string(got[136:186]) != all[110:] {
		t.Errorf("the values: %q, %q", got[18:128], got[136:186])
	}
	if !bytes.Equal(got[186:252], make([]byte, 66)) {
		t.Errorf("behind the values: %v", got[186:252])
	}
}

func TestEncodeWritesTheImage(t *testing.T) {
	for i, p := range rightPages() {
		for _, id := range []int{0, 31, i % api.MaxPages} {
			got, errno := Encode(id, p)
			if errno != api.OK || !bytes.Equal(got, imageOf(id, p)) {
				t.Errorf("Encode(%d, %#v): %v, %d", id, p, got, errno)
			}
		}
	}
}

func TestEncodeRefusesWrongArguments(t *testing.T) {
	refused := func(id int, p api.Page) {
		t.Helper()
		if got, errno := Encode(id, p); len(got) != 0 || errno != api.ErrArg {
			t.Errorf("Encode(%d, %#v): %d bytes, %d", id, p, len(got), errno)
		}
	}
	for _, id := range wrongIDs {
		refused(id, api.Page{})
		refused(id, everyCell(maxLSN, used("ab")))
	}
	for _, p := range wrongPages() {
		refused(0, p)
		refused(31, p)
		refused(32, p)
		refused(-1, p)
	}
}

// P4.1: Decode, what it refuses, in the order of the promise.

// imagesOfAllKinds are 256 bytes: a right image, torn ones, ones with a wrong
// sum, and ones that are no image though their sum is right.
func imagesOfAllKinds() map[string][]byte {
	p := everyCell(7, used("ab"))
	told := toldOf(3, p)
	spoilt := bytes.Clone(imageOf(3, p))
	spoilt[60] ^= 1
	tornAndSpoilt := bytes.Clone(sealedImage(7, 8, told))
	tornAndSpoilt[60] ^= 1
	return map[string][]byte{
		"an image":                 imageOf(3, p),
		"a torn image":             sealedImage(7, 8, told),
		"a torn and spoilt image":  tornAndSpoilt,
		"a spoilt image":           spoilt,
		"an image above MaxLSN":    sealedImage(maxLSN+1, maxLSN+1, told),
		"bytes 0":                  make([]byte, 256),
		"bytes 255":                bytes.Repeat([]byte{255}, 256),
		"noughts with a right sum": sealedImage(1, 1, make([]byte, 236)),
	}
}

func TestDecodeRefusesWrongNumbersFirst(t *testing.T) {
	for _, id := range wrongIDs {
		for what, b := range imagesOfAllKinds() {
			wantRefused(t, what, id, b, api.ErrArg)
			for _, size := range otherSizes {
				other := append(bytes.Clone(b), b...)[:size]
				wantRefused(t, fmt.Sprintf("%d bytes of %s", size, what), id, other, api.ErrArg)
			}
		}
		wantRefused(t, "nil", id, nil, api.ErrArg)
	}
}

func TestDecodeTellsTooFewAndTooManyBytes(t *testing.T) {
	for what, b := range imagesOfAllKinds() {
		for size := range 256 {
			wantRefused(t, fmt.Sprintf("%d bytes of %s", size, what), 3, b[:size:size], api.ErrShort)
		}
		for _, size := range []int{257, 258, 384, 511, 512} {
			more := append(bytes.Clone(b), b...)[:size]
			wantRefused(t, fmt.Sprintf("%d bytes, first %s", size, what), 3, more, api.ErrForm)
			more = append(bytes.Clone(b), make([]byte, size-256)...)
			wantRefused(t, fmt.Sprintf("%s and %d bytes 0", what, size-256), 3, more, api.ErrForm)
		}
	}
	wantRefused(t, "nil", 0, nil, api.ErrShort)
	wantRefused(t, "no bytes", 0, []byte{}, api.ErrShort)
}

func TestDecodeTellsTornAheadOfAllElse(t *testing.T) {
	kinds := imagesOfAllKinds()
	for _, id := range []int{3, 4} {
		wantRefused(t, "a torn image", id, kinds["a torn image"], api.ErrTorn)
		wantRefused(t, "a torn and spoilt image", id, kinds["a torn and spoilt image"], api.ErrTorn)
	}
	told := toldOf(3, everyCell(0, used("ab")))
	for _, stamps := range [][2]uint64{{0, 1}, {1, 0}, {7, 7 + 1<<56}, {maxLSN, maxLSN + 1}, {math.MaxUint64, 0}, {1 << 63, math.MaxUint64}} {
		wantRefused(t, fmt.Sprint("stamps ", stamps), 3, sealedImage(stamps[0], stamps[1], told), api.ErrTorn)
		wantRefused(t, fmt.Sprint("noughts, stamps ", stamps), 3, sealedImage(stamps[0], stamps[1], make([]byte, 236)), api.ErrTorn)
	}
}

func TestDecodeTellsAWrongSumAheadOfAWrongForm(t *testing.T) {
	wantRefused(t, "bytes 0", 0, make([]byte, 256), api.ErrSum)
	wantRefused(t, "bytes 255", 0, bytes.Repeat([]byte{255}, 256), api.ErrSum)
	spoil := func(b []byte) []byte {
		b[200] ^= 1
		return b
	}
	told := toldOf(3, everyCell(0, used("ab")))
	wantRefused(t, "a spoilt image", 3, spoil(sealedImage(7, 7, told)), api.ErrSum)
	wantRefused(t, "a spoilt image of another number", 4, spoil(sealedImage(7, 7, told)), api.ErrSum)
	wantRefused(t, "a spoilt image above MaxLSN", 3, spoil(sealedImage(maxLSN+1, maxLSN+1, told)), api.ErrSum)
	told[5] = 21
	wantRefused(t, "a spoilt image with a wrong length", 3, spoil(sealedImage(7, 7, told)), api.ErrSum)
}

// The sum's bytes stand the lowest first, and are those of the 236 alone.
func TestDecodeRefusesOtherSums(t *testing.T) {
	right := imageOf(3, everyCell(7, used("ab")))
	turned := bytes.Clone(right)
	slices.Reverse(turned[252:])
	wantRefused(t, "the sum the highest first", 3, turned, api.ErrSum)
	withStamps := bytes.Clone(right)
	binary.LittleEndian.PutUint32(withStamps[252:], crc32.ChecksumIEEE(right[:252]))
	wantRefused(t, "the sum with the stamps", 3, withStamps, api.ErrSum)
	copy(withStamps[252:], "\x00\x00\x00\x00")
	wantRefused(t, "the sum 0", 3, withStamps, api.ErrSum)
}

// P4.1: Decode of bytes whose sum is right, and that are no image.

func TestDecodeRefusesLengthsThatNoValueHas(t *testing.T) {
	for slot := range api.Slots {
		for size := api.MaxValue + 1; size <= 254; size++ {
			for _, p := range []api.Page{{}, everyCell(0, used("")), everyCell(0, used("ab"))} {
				told := toldOf(3, p)
				told[2+slot] = byte(size)
				wantRefused(t, fmt.Sprintf("a value of %d bytes in the slot %d", size, slot), 3, sealedImage(7, 7, told), api.ErrForm)
			}
		}
	}
	told := toldOf(3, api.Page{})
	for _, size := range []byte{21, 100, 128, 226, 254} {
		copy(told[2:], bytes.Repeat([]byte{size}, api.Slots))
		wantRefused(t, fmt.Sprintf("all values of %d bytes", size), 3, sealedImage(7, 7, told), api.ErrForm)
	}
}

func TestDecodeTakesLengthsThatValuesHave(t *testing.T) {
	for slot := range api.Slots {
		for size := range api.MaxValue + 1 {
			p := api.Page{LSN: 7}
			p.Cells[slot] = used(strings.Repeat("x", size))
			wantPage(t, fmt.Sprintf("a value of %d bytes in the slot %d", size, slot), 3, sealedImage(7, 7, toldOf(3, p)), p)
		}
	}
}

func TestDecodeRefusesBytesBehindTheValues(t *testing.T) {
	pages := []api.Page{{}, everyCell(0, used("")), everyCell(0, used("abc")), everyCell(0, used(strings.Repeat("x", api.MaxValue)))}
	for _, p := range pages {
		behind := 10
		for _, c := range p.Cells {
			behind += len(c.Value)
		}
		for at := behind; at < 236; at++ {
			for _, c := range []byte{1, 128, 255} {
				told := toldOf(3, p)
				told[at] = c
				wantRefused(t, fmt.Sprintf("a byte %d at %d", c, at), 3, sealedImage(7, 7, told), api.ErrForm)
			}
		}
	}
}

// What an unused cell once had may not stand in its place.
func TestDecodeRefusesAValueOfAnUnusedCell(t *testing.T) {
	p := api.Page{LSN: 7}
	p.Cells[0], p.Cells[1] = used("ab"), used("cd")
	told := toldOf(3, p)
	told[2+1] = 255
	wantRefused(t, "a value of an unused cell", 3, sealedImage(7, 7, told), api.ErrForm)
}

func TestDecodeRefusesAnotherPagesNumber(t *testing.T) {
	for id := range api.MaxPages {
		for other := range api.MaxPages {
			p := everyCell(7, used("ab"))
			if other == id {
				wantPage(t, "its own number", id, imageOf(id, p), p)
			} else {
				wantRefused(t, fmt.Sprint("the page ", other), id, imageOf(other, p), api.ErrForm)
			}
		}
		for _, other := range []int{id + 32, id + 256, id + 512, 256 * id, 65535 - id} {
			if other != id {
				wantRefused(t, fmt.Sprint("the number ", other), id, imageOf(other, api.Page{LSN: 7}), api.ErrForm)
			}
		}
	}
}

func TestDecodeRefusesStampsAboveTheGreatestNumber(t *testing.T) {
	for _, p := range []api.Page{{}, everyCell(0, used("ab"))} {
		for _, lsn := range wrongLSNs {
			wantRefused(t, fmt.Sprint("the stamp ", lsn), 3, sealedImage(lsn, lsn, toldOf(3, p)), api.ErrForm)
		}
		for _, lsn := range rightLSNs {
			p.LSN = lsn
			wantPage(t, fmt.Sprint("the stamp ", lsn), 3, sealedImage(lsn, lsn, toldOf(3, p)), p)
		}
	}
}

// P4.2.

// stampsOf are the stamps that b bears, if it has the bytes of an image.
func stampsOf(b []byte) (uint64, uint64) {
	return binary.BigEndian.Uint64(b), binary.BigEndian.Uint64(b[128:])
}

// wantStamps asks that Torn and Stamp tell what the promise says of 256 bytes.
func wantStamps(t *testing.T, what string, b []byte) {
	t.Helper()
	first, second := stampsOf(b)
	if got := Torn(b); got != (first != second) {
		t.Errorf("Torn of %s, stamps %d and %d: %t", what, first, second, got)
	}
	n, ok := Stamp(b)
	if first == second && (n != first || !ok) || first != second && (n != 0 || ok) {
		t.Errorf("Stamp of %s, stamps %d and %d: %d, %t", what, first, second, n, ok)
	}
}

func TestStampOfImages(t *testing.T) {
	for _, p := range rightPages() {
		b, _ := Encode(31, p)
		if n, ok := Stamp(b); n != p.LSN || !ok || Torn(b) {
			t.Errorf("Stamp of an image of the LSN %d: %d, %t; Torn: %t", p.LSN, n, ok, Torn(b))
		}
	}
}

// Neither the tale nor whether a record may have the number plays a part.
func TestStampsAloneTellWhatIsTorn(t *testing.T) {
	for what, b := range imagesOfAllKinds() {
		wantStamps(t, what, b)
	}
	source := rand.New(rand.NewSource(42))
	all := slices.Concat(rightLSNs, wrongLSNs)
	for _, first := range all {
		for _, second := range all {
			b := make([]byte, 256)
			source.Read(b)
			binary.BigEndian.PutUint64(b, first)
			binary.BigEndian.PutUint64(b[128:], second)
			wantStamps(t, "bytes at random", b)
		}
	}
}

func TestEachBitOfAStampTears(t *testing.T) {
	right := imageOf(3, everyCell(7, used("ab")))
	for at := range 256 {
		for bit := range 8 {
			b := bytes.Clone(right)
			b[at] ^= 1 << bit
			wantStamps(t, fmt.Sprintf("an image with the bit %d of the byte %d turned", bit, at), b)
			if at < 8 || 128 <= at && at < 136 {
				wantRefused(t, "a torn image", 3, b, api.ErrTorn)
			}
		}
	}
}

func TestBytesOfOtherSizesAreNotTornAndHaveNoStamp(t *testing.T) {
	for what, b := range imagesOfAllKinds() {
		for _, size := range otherSizes {
			other := append(bytes.Clone(b), b...)[:size:size]
			if Torn(other) {
				t.Errorf("Torn of %d bytes of %s: true", size, what)
			}
			if n, ok := Stamp(other); n != 0 || ok {
				t.Errorf("Stamp of %d bytes of %s: %d, %t", size, what, n, ok)
			}
		}
	}
	if n, ok := Stamp(nil); n != 0 || ok || Torn(nil) {
		t.Errorf("of nil: %d, %t, %t", n, ok, Torn(nil))
	}
}

// P4.3.

func TestImagesAreDecodedAsTheirPages(t *testing.T) {
	for _, p := range rightPages() {
		for id := range api.MaxPages {
			b, errno := Encode(id, p)
			if errno != api.OK {
				t.Fatalf("Encode(%d, %#v): %d", id, p, errno)
			}
			wantPage(t, "an image", id, b, p)
			wantRefused(t, "an image", (id+1)%api.MaxPages, b, api.ErrForm)
		}
	}
}

func TestTwoPagesHaveTwoImages(t *testing.T) {
	type numbered struct {
		id   int
		page api.Page
	}
	seen := map[string]numbered{}
	for _, p := range rightPages() {
		for _, id := range []int{0, 1, 31} {
			b, _ := Encode(id, p)
			other, ok := seen[string(b)]
			if ok && other != (numbered{id, p}) {
				t.Errorf("one image of %#v and %#v", other, numbered{id, p})
			}
			seen[string(b)] = numbered{id, p}
		}
	}
}

// wantOneImage asks that bytes that are decoded are the image of that page.
func wantOneImage(t *testing.T, id int, b []byte) bool {
	t.Helper()
	p, errno := Decode(id, b)
	if errno != api.OK {
		return false
	}
	if !Right(p) {
		t.Errorf("Decode answers a page that isn't right: %#v", p)
	}
	if got, errno := Encode(id, p); errno != api.OK || !bytes.Equal(got, b) {
		t.Errorf("%v is decoded as %#v, whose image is another", b, p)
	}
	return true
}

// All tales that differ by one byte from a right one are gone through.
func TestNoPageHasTwoImages(t *testing.T) {
	for _, p := range []api.Page{{}, {LSN: 7, Cells: [8]api.Cell{3: used("ab"), 5: used("")}}, everyCell(7, used("abc"))} {
		told := toldOf(3, p)
		decoded := 0
		for at := range told {
			for c := range 256 {
				other := bytes.Clone(told)
				other[at] = byte(c)
				if wantOneImage(t, 3, sealedImage(p.LSN, p.LSN, other)) {
					decoded++
				}
			}
		}
		if decoded < len(told) {
			t.Errorf("of %#v only %d were decoded", p, decoded)
		}
	}
}

func TestNoPageHasTwoImagesAtRandom(t *testing.T) {
	source := rand.New(rand.NewSource(43))
	sizes := []byte{0, 1, 2, 19, 20, 21, 255, 255}
	decoded := 0
	for range 20000 {
		told := make([]byte, 236)
		told[1] = byte(source.Intn(2))
		for i := range api.Slots {
			told[2+i] = sizes[source.Intn(len(sizes))]
		}
		source.Read(told[10 : 10+source.Intn(60)])
		if wantOneImage(t, 1, sealedImage(5, 5, told)) {
			decoded++
		}
	}
	if decoded == 0 {
		t.Error("none was decoded")
	}
}

// P4.4.

func TestMixedSectorsAreTorn(t *testing.T) {
	pages := rightPages()
	for i, p := range pages {
		q := pages[(7*i+1)%len(pages)]
		for _, ids := range [][2]int{{3, 3}, {3, 4}} {
			first, _ := Encode(ids[0], p)
			second, _ := Encode(ids[1], q)
			mixed := slices.Concat(first[:128], second[128:])
			if Torn(mixed) != (p.LSN != q.LSN) {
				t.Errorf("Torn of the LSNs %d and %d: %t", p.LSN, q.LSN, Torn(mixed))
			}
			if p.LSN != q.LSN {
				wantStamps(t, "mixed sectors", mixed)
				wantRefused(t, "mixed sectors", ids[0], mixed, api.ErrTorn)
				wantRefused(t, "mixed sectors", ids[1], mixed, api.ErrTorn)
			}
		}
	}
}

func TestMixedSectorsOfAllPairsOfNumbersAreTorn(t *testing.T) {
	for _, a := range rightLSNs {
		for _, b := range rightLSNs {
			first, _ := Encode(3, everyCell(a, used("ab")))
			second, _ := Encode(3, everyCell(b, used("ab")))
			mixed := slices.Concat(first[:128], second[128:])
			if a != b {
				wantRefused(t, fmt.Sprintf("the LSNs %d and %d", a, b), 3, mixed, api.ErrTorn)
			} else {
				wantPage(t, fmt.Sprintf("the LSN %d twice", a), 3, mixed, everyCell(a, used("ab")))
			}
		}
	}
}

// turned answers an image with the pattern's bits turned, in the tale's part
// of a sector, from the bit on; bits are counted byte by byte, in each from
// the lowest on.
func turned(image []byte, sector, bit int, pattern uint32) []byte {
	out := bytes.Clone(image)
	part := out[128*sector+8 : 128*sector+128]
	for i := range 32 {
		if pattern>>i&1 == 1 {
			part[(bit+i)/8] ^= 1 << ((bit + i) % 8)
		}
	}
	return out
}

func TestTurnedBitsAreTold(t *testing.T) {
	source := rand.New(rand.NewSource(44))
	patterns := []uint32{1, 3, 5, 0xFF, 0x80000001, 0xFFFFFFFF, 0x076DC419, 0xDB710641, 0x55555555}
	for _, p := range []api.Page{{LSN: 7}, everyCell(maxLSN, used(strings.Repeat("x", api.MaxValue)))} {
		image, _ := Encode(3, p)
		for sector := range 2 {
			for bit := range 8 * 120 {
				for _, pattern := range append(patterns, source.Uint32()|1, source.Uint32()|1) {
					// Bits beyond the sector's end are left as they are: one at least is turned.
					if left := 8*120 - bit; left < 32 {
						pattern &= 1<<left - 1
					}
					b := turned(image, sector, bit, pattern)
					wantRefused(t, fmt.Sprintf("%X turned at the bit %d of the sector %d", pattern, bit, sector), 3, b, api.ErrSum)
					if n, ok := Stamp(b); n != p.LSN || !ok {
						t.Errorf("Stamp of an image with turned bits: %d, %t", n, ok)
					}
				}
			}
		}
	}
}

// R1 and R2.

func TestAllBytesAreAnswered(t *testing.T) {
	source := rand.New(rand.NewSource(45))
	errnos := []api.Errno{api.OK, api.ErrArg, api.ErrForm, api.ErrSum, api.ErrShort, api.ErrTorn}
	for range 20000 {
		b := make([]byte, []int{0, 100, 255, 256, 256, 256, 257}[source.Intn(7)])
		source.Read(b)
		if len(b) == 256 && source.Intn(2) == 0 {
			b = sealedImage(5, 5, b[:236])
		}
		id := source.Intn(34) - 1
		p, errno := Decode(id, b)
		if !slices.Contains(errnos, errno) || errno != api.OK && p != (api.Page{}) {
			t.Errorf("Decode(%d, %v): %#v, %d", id, b, p, errno)
		}
		n, ok := Stamp(b)
		if !ok && n != 0 || ok && Torn(b) || ok != (len(b) == 256 && !Torn(b)) {
			t.Errorf("Stamp(%v): %d, %t; Torn: %t", b, n, ok, Torn(b))
		}
	}
}

// R3.

func TestAnImageIsNewMemory(t *testing.T) {
	for _, p := range rightPages() {
		first, _ := Encode(3, p)
		second, _ := Encode(3, p)
		want := bytes.Clone(second)
		for i := range first {
			first[i] ^= 255
		}
		_ = append(first, 1, 2, 3)
		if !bytes.Equal(second, want) {
			t.Fatal("two images share memory")
		}
		third, _ := Encode(3, p)
		if !bytes.Equal(third, want) {
			t.Fatal("an image that was changed plays a part in a later one")
		}
	}
}

func TestADecodedPageIsNewMemory(t *testing.T) {
	for _, p := range rightPages() {
		b := imageOf(3, p)
		got, errno := Decode(3, b)
		for i := range b {
			b[i] ^= 255
		}
		if got != p || errno != api.OK {
			t.Fatalf("a page shares memory with its image: %#v, not %#v", got, p)
		}
	}
}

func TestBytesHandedInAreLeftAsTheyAre(t *testing.T) {
	for what, image := range imagesOfAllKinds() {
		for _, size := range []int{0, 100, 128, 255, 256} {
			b, whole := withSpare(image[:size], 300)
			before := bytes.Clone(whole)
			p, errno := Decode(3, b)
			n, ok := Stamp(b)
			torn := Torn(b)
			if !bytes.Equal(whole, before) {
				t.Errorf("%d bytes of %s were changed", size, what)
			}
			alone := bytes.Clone(image[:size:size])
			q, errnoAlone := Decode(3, alone)
			m, okAlone := Stamp(alone)
			if p != q || errno != errnoAlone || n != m || ok != okAlone || torn != Torn(alone) {
				t.Errorf("what lies behind %d bytes of %s plays a part", size, what)
			}
		}
	}
}

// A page is handed on as a value, so that the caller's own stays as it is.
func TestAPageHandedInIsLeftAsItIs(t *testing.T) {
	for _, p := range slices.Concat(rightPages(), wrongPages()) {
		before := p
		Right(p)
		Encode(3, p)
		if p != before {
			t.Errorf("%#v was made of %#v", p, before)
		}
	}
}

// R6.

func TestTheSameIsAnsweredAgain(t *testing.T) {
	kinds := imagesOfAllKinds()
	tell := func(what string) string {
		b := kinds[what]
		p, errno := Decode(3, b)
		n, ok := Stamp(b)
		image, imageErrno := Encode(3, p)
		return fmt.Sprint(p, errno, n, ok, Torn(b), Right(p), image, imageErrno)
	}
	told := map[string]string{}
	for what := range kinds {
		told[what] = tell(what)
	}
	for range 3 {
		for what := range kinds {
			if got := tell(what); got != told[what] {
				t.Errorf("of %s: %s, and once %s", what, got, told[what])
			}
		}
	}
}
