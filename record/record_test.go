package record

import (
	"bytes"
	"encoding/binary"
	"hash/crc32"
	"math"
	"math/rand"
	"slices"
	"testing"

	"jetway/api"
	"jetway/crc"
)

const head = 8 // bytes of a record ahead of its content

// someBytes are pseudo-random, but the same in every run.
func someBytes(seed int64, n int) []byte {
	b := make([]byte, n)
	rand.New(rand.NewSource(seed)).Read(b)
	return b
}

// framed is a record whose first four bytes say length, with the checksum that fits, by the library. It is a result of Put only if length is that of b and not too great.
func framed(length uint32, b []byte) []byte {
	out := binary.BigEndian.AppendUint32(nil, length)
	sum := crc32.Checksum(slices.Concat(out, b), crc32.MakeTable(crc32.Castagnoli))
	return append(binary.BigEndian.AppendUint32(out, sum), b...)
}

// plain is the record with the content b, by the library.
func plain(b []byte) []byte { return framed(uint32(len(b)), b) }

// plainScan is Scan in another way: it asks at each place which content would have just these bytes as its record.
func plainScan(b []byte) ([][]byte, int) {
	var contents [][]byte
	used := 0
	for len(b)-used >= head {
		length := uint64(binary.BigEndian.Uint32(b[used:]))
		if length > 65536 || uint64(len(b)-used-head) < length {
			break
		}
		content := b[used+head:][:length]
		if !bytes.HasPrefix(b[used:], plain(content)) {
			break
		}
		contents = append(contents, bytes.Clone(content))
		used += head + len(content)
	}
	return contents, used
}

func mustPut(t *testing.T, b []byte) []byte {
	t.Helper()
	r, e := Put(b)
	if e != api.OK {
		t.Fatalf("Put of %d bytes: error %d", len(b), e)
	}
	return r
}

// putAll are the records of the contents, one behind the other, and where each of them ends.
func putAll(t *testing.T, contents [][]byte) ([]byte, []int) {
	t.Helper()
	var all []byte
	var ends []int
	for _, c := range contents {
		all = append(all, mustPut(t, c)...)
		ends = append(ends, len(all))
	}
	return all, ends
}

// someContents are pseudo-random contents of these lengths.
func someContents(seed int64, lengths ...int) [][]byte {
	var out [][]byte
	for i, n := range lengths {
		out = append(out, someBytes(seed+int64(i), n))
	}
	return out
}

func same(a, b [][]byte) bool { return slices.EqualFunc(a, b, bytes.Equal) }

func wantScan(t *testing.T, what string, b []byte, contents [][]byte, used int) {
	t.Helper()
	got, n := Scan(b)
	if !same(got, contents) || n != used {
		t.Fatalf("%s: %d contents in %d bytes, want %d in %d", what, len(got), n, len(contents), used)
	}
}

// P5.1

func TestPutExamples(t *testing.T) {
	for _, c := range []struct{ in, want []byte }{
		{nil, []byte{0, 0, 0, 0, 0x48, 0x67, 0x4B, 0xC7}},
		{[]byte{}, []byte{0, 0, 0, 0, 0x48, 0x67, 0x4B, 0xC7}},
		{[]byte{7}, []byte{0, 0, 0, 1, 0x82, 0x1A, 0x8A, 0xA9, 7}},
	} {
		if got := mustPut(t, c.in); !bytes.Equal(got, c.want) {
			t.Errorf("Put(%v) = %v, want %v", c.in, got, c.want)
		}
	}
}

func TestPutIsLengthSumAndContent(t *testing.T) {
	lengths := []int{1000, 4095, 4096, 4097, 32767, 32768, 60000, 65534, 65535, 65536}
	for n := range 600 {
		lengths = append(lengths, n)
	}
	for _, n := range lengths {
		b := someBytes(int64(n), n)
		r := mustPut(t, b)
		if len(r) != head+n || !bytes.Equal(r[head:], b) {
			t.Fatalf("%d bytes: the content is another one", n)
		}
		if !bytes.Equal(r[:4], []byte{0, byte(n / 65536), byte(n / 256), byte(n)}) {
			t.Errorf("%d bytes: the length is %v", n, r[:4])
		}
		sum := crc.Sum(slices.Concat(r[:4], b))
		if !bytes.Equal(r[4:head], []byte{byte(sum >> 24), byte(sum >> 16), byte(sum >> 8), byte(sum)}) {
			t.Errorf("%d bytes: the checksum is %v, want that of %d", n, r[4:head], sum)
		}
		if !bytes.Equal(r, plain(b)) {
			t.Errorf("%d bytes: the library has another record", n)
		}
	}
}

func TestPutOfEveryByte(t *testing.T) {
	for c := range 256 {
		b := []byte{byte(c)}
		if got := mustPut(t, b); !bytes.Equal(got, plain(b)) {
			t.Errorf("Put(%d) = %v, want %v", c, got, plain(b))
		}
	}
}

func TestPutRefusesLongContents(t *testing.T) {
	for _, n := range []int{65537, 65538, 70000, 131072, 1 << 20, 1 << 24} {
		if r, e := Put(make([]byte, n)); len(r) != 0 || e != api.ErrFull {
			t.Errorf("Put of %d bytes: %d bytes, error %d; want none, error 3", n, len(r), e)
		}
	}
}

func TestPutSharesNoMemory(t *testing.T) {
	b := make([]byte, 100, 200)
	copy(b, someBytes(1, 100))
	before := slices.Clone(b[:200])
	first := mustPut(t, b)
	second := mustPut(t, b)
	clear(first)
	_ = append(first, 99)
	if !bytes.Equal(b[:200], before) {
		t.Error("the argument has changed")
	}
	b[0] ^= 1
	if !bytes.Equal(second, plain(before[:100])) {
		t.Error("the record has changed with the argument or with another record")
	}
}

// P5.2

func TestScanOfNothing(t *testing.T) {
	wantScan(t, "nil", nil, nil, 0)
	wantScan(t, "empty", []byte{}, nil, 0)
}

func TestScanExample(t *testing.T) {
	all := slices.Concat(mustPut(t, []byte{7}), mustPut(t, nil))
	if len(all) != 17 {
		t.Fatalf("the records have %d bytes", len(all))
	}
	wantScan(t, "two records", all, [][]byte{{7}, {}}, 17)
	wantScan(t, "two records without the last byte", all[:16], [][]byte{{7}}, 9)
}

func TestScanOfOneRecord(t *testing.T) {
	for _, n := range []int{0, 1, 2, 3, 4, 7, 8, 9, 255, 256, 257, 4096, 65535, 65536} {
		b := someBytes(int64(n), n)
		wantScan(t, "one record", mustPut(t, b), [][]byte{b}, head+n)
		wantScan(t, "one record of the library", plain(b), [][]byte{b}, head+n)
	}
}

func TestScanOfManyRecords(t *testing.T) {
	contents := [][]byte{nil, nil, nil}
	for n := range 300 {
		contents = append(contents, someBytes(int64(n), n))
	}
	contents = append(contents, someBytes(1, 65536), nil, someBytes(2, 65535), []byte{0})
	all, ends := putAll(t, contents)
	wantScan(t, "many records", all, contents, len(all))
	for i, end := range ends {
		wantScan(t, "the first of them", all[:end], contents[:i+1], end)
	}
}

func TestScanOfManyEmptyRecords(t *testing.T) {
	const many = 10000
	all := bytes.Repeat(mustPut(t, nil), many)
	wantScan(t, "empty records", all, make([][]byte, many), head*many)
	wantScan(t, "empty records, and a byte", append(all, 0), make([][]byte, many), head*many)
}

// A record within the content of another one is content, and nothing else.
func TestScanOfRecordsWithinRecords(t *testing.T) {
	inner := slices.Concat(mustPut(t, []byte{1, 2}), mustPut(t, nil))
	outer := mustPut(t, inner)
	wantScan(t, "records within a record", slices.Concat(outer, outer), [][]byte{inner, inner}, 2*len(outer))
	outer[0]++
	wantScan(t, "records within none", outer, nil, 0)
}

// tails are bytes that begin no record.
func tails() map[string][]byte {
	turned := plain([]byte{1, 2, 3})
	turned[7] ^= 1
	return map[string][]byte{
		"a zero":                      {0},
		"a byte":                      {255},
		"seven zeros":                 make([]byte, 7),
		"eight zeros":                 make([]byte, 8),
		"a thousand zeros":            make([]byte, 1000),
		"ones":                        bytes.Repeat([]byte{255}, 1000),
		"text":                        []byte("this is no record, whatever it may be"),
		"noise":                       someBytes(9, 100000),
		"a head without its content":  plain([]byte{1, 2, 3})[:8],
		"a part of a head":            plain(nil)[:7],
		"a record without its end":    plain([]byte{1, 2, 3})[:10],
		"a record with another sum":   turned,
		"a record behind a byte":      append([]byte{0}, plain([]byte{5})...),
		"a record without its length": plain([]byte{5})[4:],
	}
}

func TestScanStopsAtBytesThatBeginNoRecord(t *testing.T) {
	contents := someContents(1, 5, 0, 300)
	all, _ := putAll(t, contents)
	for what, tail := range tails() {
		wantScan(t, what, tail, nil, 0)
		wantScan(t, what+", then records", slices.Concat(tail, all), nil, 0)
		wantScan(t, "records, then "+what, slices.Concat(all, tail), contents, len(all))
		wantScan(t, "records, then "+what+", then records", slices.Concat(all, tail, all), contents, len(all))
	}
}

// The checksum fits in all of these, so that it is the length alone for which they are refused.
func TestScanRefusesLengthsAboveTheLimit(t *testing.T) {
	contents := someContents(2, 3, 4)
	all, _ := putAll(t, contents)
	refuse := func(length uint32, b []byte) {
		t.Helper()
		wrong := framed(length, b)
		wantScan(t, "a wrong length", wrong, nil, 0)
		wantScan(t, "a wrong length behind records", slices.Concat(all, wrong), contents, len(all))
		wantScan(t, "a wrong length ahead of records", slices.Concat(wrong, all), nil, 0)
	}
	for _, n := range []int{65537, 65538, 70000, 1 << 20} {
		refuse(uint32(n), someBytes(3, n))
	}
	beyond := []uint32{65537, 1 << 17, 1 << 24, 1<<24 + 3, 1<<31 - 8, 1<<31 - 1, 1 << 31, 1<<31 + 3,
		math.MaxUint32 - 15, math.MaxUint32 - 8, math.MaxUint32 - 7, math.MaxUint32 - 6, math.MaxUint32 - 1, math.MaxUint32}
	for _, length := range beyond {
		refuse(length, nil)
		refuse(length, []byte{1, 2, 3})
		refuse(length, someBytes(4, 70000))
	}
}

func TestScanRefusesLengthsThatDoNotFit(t *testing.T) {
	b := someBytes(5, 20)
	for length := range uint32(70000) {
		if length == 20 {
			continue
		}
		if got, n := Scan(framed(length, b)); len(got) != 0 || n != 0 {
			t.Fatalf("20 bytes with the length %d: %d contents in %d bytes", length, len(got), n)
		}
	}
}

func TestScanRefusesTurnedHeads(t *testing.T) {
	for _, length := range []int{0, 1, 2, 300, 65536} {
		contents := [][]byte{{1}, someBytes(6, length), {2, 3}}
		all, ends := putAll(t, contents)
		for bit := range 8 * head {
			at := ends[0] + bit/8
			all[at] ^= 1 << (bit % 8)
			wantScan(t, "a bit of a head is turned", all, contents[:1], ends[0])
			all[at] ^= 1 << (bit % 8)
		}
		wantScan(t, "no bit is turned", all, contents, len(all))
	}
}

func TestScanRefusesEveryOtherSum(t *testing.T) {
	r := mustPut(t, []byte{7, 8})
	sum := binary.BigEndian.Uint32(r[4:])
	random := rand.New(rand.NewSource(7))
	wrong := []uint32{0, math.MaxUint32, ^sum, sum + 1, sum - 1, crc.Sum([]byte{7, 8}), binary.LittleEndian.Uint32(r[4:])}
	for range 10000 {
		wrong = append(wrong, random.Uint32())
	}
	for _, s := range wrong {
		if s != sum {
			binary.BigEndian.PutUint32(r[4:], s)
			wantScan(t, "another checksum", r, nil, 0)
		}
	}
}

func TestScanSharesNoMemory(t *testing.T) {
	contents := someContents(8, 10, 0, 20, 30)
	all, _ := putAll(t, contents)
	before := slices.Clone(all)
	first, _ := Scan(all)
	second, _ := Scan(all)
	for i := range first {
		_ = append(first[i], bytes.Repeat([]byte{99}, 50)...)
	}
	if !same(first, contents) {
		t.Error("two contents share memory")
	}
	for i := range first {
		clear(first[i])
	}
	if !bytes.Equal(all, before) {
		t.Error("the argument has changed")
	}
	clear(all)
	if !same(second, contents) {
		t.Error("the contents have changed with the argument or with other contents")
	}
}

func TestIteratorEndsWhenItIsLeft(t *testing.T) {
	contents := someContents(9, 1, 2, 3, 4)
	all, _ := putAll(t, contents)
	sequence := records(all)
	for leave := range len(contents) {
		seen := 0
		for content := range sequence {
			if !bytes.Equal(content, contents[seen]) {
				t.Errorf("content %d is %v", seen, content)
			}
			if seen == leave {
				break
			}
			seen++
		}
		if seen != leave {
			t.Errorf("%d contents, want to leave at %d", seen, leave)
		}
	}
}

// P5.3

func TestEveryTruncation(t *testing.T) {
	for _, contents := range [][][]byte{
		nil,
		someContents(10, 0),
		someContents(11, 1),
		someContents(12, 0, 0, 0, 0),
		someContents(13, 7, 8, 9),
		someContents(14, 0, 1, 2, 3, 0, 300, 0, 16, 1),
		someContents(15, 300, 257, 256, 255, 40),
		{make([]byte, 30), make([]byte, 0), make([]byte, 30)},
		{plainOf(5), plainOf(0), plainOf(9)},
	} {
		all, ends := putAll(t, contents)
		whole := 0
		for n := range len(all) + 1 {
			for whole < len(ends) && ends[whole] <= n {
				whole++
			}
			used := 0
			if whole > 0 {
				used = ends[whole-1]
			}
			wantScan(t, "truncated", all[:n], contents[:whole], used)
		}
	}
}

// plainOf is a content that is a record itself.
func plainOf(n int) []byte { return plain(someBytes(int64(n), n)) }

func TestTruncationOfLongRecords(t *testing.T) {
	contents := someContents(16, 65536, 65536)
	all, ends := putAll(t, contents)
	for _, n := range []int{0, 1, 7, 8, 9, 1000, 65535, 65536, 65537, ends[0] - 1} {
		wantScan(t, "within the first", all[:n], nil, 0)
	}
	for _, n := range []int{0, 1, 7, 8, 9, 1000, 65535, 65536, 65537, ends[0] - 1} {
		wantScan(t, "within the second", all[:ends[0]+n], contents[:1], ends[0])
	}
	wantScan(t, "both", all, contents, len(all))
}

// changes are values by which four bytes may be turned: each bit alone, all of them, and some.
func changes(random *rand.Rand) []uint32 {
	out := []uint32{math.MaxUint32, 0xFF000000, 0x000000FF, 0x80000001, 0x82F63B78, 0x1EDC6F41}
	for i := range 32 {
		out = append(out, 1<<i)
	}
	for range 20 {
		out = append(out, random.Uint32()|1)
	}
	return out
}

// turn is b with the change made to its four bytes from at on, or to those of them that are ahead of end.
func turn(b []byte, at, end int, change uint32) []byte {
	out := slices.Clone(b)
	for i, c := range binary.BigEndian.AppendUint32(nil, change) {
		if at+i < end {
			out[at+i] ^= c
		}
	}
	return out
}

// wantTurnedSeen checks all changes from one byte of one content on.
func wantTurnedSeen(t *testing.T, contents [][]byte, all []byte, ends []int, record, from int) {
	t.Helper()
	end := ends[record]
	start := end - head - len(contents[record])
	at := start + head + from
	for _, change := range changes(rand.New(rand.NewSource(int64(at)))) {
		turned := turn(all, at, end, change)
		if !bytes.Equal(turned, all) {
			wantScan(t, "bits of a content are turned", turned, contents[:record], start)
		}
	}
}

func TestTurnedBitsOfContents(t *testing.T) {
	for _, lengths := range [][]int{
		{1}, {2}, {3}, {4}, {5}, {100},
		{1, 1, 1}, {4, 4, 4}, {9, 0, 12, 0, 7}, {50, 60, 70}, {0, 20, 0},
	} {
		contents := someContents(17, lengths...)
		all, ends := putAll(t, contents)
		for i, n := range lengths {
			for from := range n {
				wantTurnedSeen(t, contents, all, ends, i, from)
			}
		}
	}
}

func TestTurnedBitsOfLongContents(t *testing.T) {
	const long = 3000
	contents := someContents(18, long, long, long)
	all, ends := putAll(t, contents)
	for i := range contents {
		for _, from := range []int{0, 1, long/2 - 2, long / 2, long - 5, long - 4, long - 3, long - 1} {
			wantTurnedSeen(t, contents, all, ends, i, from)
		}
	}
}

func TestTurnedBitsOfGreatestContent(t *testing.T) {
	contents := someContents(19, 2, 65536, 2)
	all, ends := putAll(t, contents)
	for _, from := range []int{0, 32766, 65532, 65535} {
		for _, change := range []uint32{math.MaxUint32, 1 << 31, 0x82F63B78} {
			wantScan(t, "bits of the greatest content are turned", turn(all, ends[0]+head+from, ends[1], change), contents[:1], ends[0])
		}
	}
}

func TestEveryOtherContentOfOneByte(t *testing.T) {
	contents := [][]byte{{1, 2}, {77}, {3}}
	all, ends := putAll(t, contents)
	for c := 1; c < 256; c++ {
		wantScan(t, "a byte is turned", turn(all, ends[1]-1, ends[1], uint32(c)<<24), contents[:1], ends[0])
	}
}

// wantConsumed checks that the records of what Scan returns are the bytes that it consumed, and that no longer sequence of records begins b.
func wantConsumed(t *testing.T, b []byte) {
	t.Helper()
	got, n := Scan(b)
	if again, _ := putAll(t, got); n < 0 || n > len(b) || !bytes.Equal(again, b[:n]) {
		t.Fatalf("Scan of %v: %d contents in %d bytes, whose records are not those", b, len(got), n)
	}
	contents, used := plainScan(b)
	if !same(got, contents) || n != used {
		t.Fatalf("Scan of %v: %d contents in %d bytes, want %d in %d", b, len(got), n, len(contents), used)
	}
}

// spoil changes, removes, repeats or inserts some bytes of b.
func spoil(random *rand.Rand, b []byte) []byte {
	at := random.Intn(len(b) + 1)
	to := min(len(b), at+random.Intn(12))
	switch random.Intn(4) {
	case 0:
		return turn(b, at, len(b), random.Uint32())
	case 1:
		return slices.Concat(b[:at], b[to:])
	case 2:
		return slices.Concat(b[:to], b[at:])
	}
	return slices.Concat(b[:at], someBytes(random.Int63(), random.Intn(12)), b[at:])
}

func TestRecordsOfContentsAreTheConsumedBytes(t *testing.T) {
	random := rand.New(rand.NewSource(20))
	for range 5000 {
		var contents [][]byte
		for range random.Intn(6) {
			contents = append(contents, someBytes(random.Int63(), random.Intn(40)))
		}
		all, _ := putAll(t, contents)
		wantConsumed(t, all)
		for range random.Intn(4) {
			all = spoil(random, all)
			wantConsumed(t, all)
		}
	}
}

// Lengths that are small, or wrong in one place, let Scan come further than noise would.
func TestScanOfNoise(t *testing.T) {
	random := rand.New(rand.NewSource(21))
	for range 50000 {
		b := someBytes(random.Int63(), random.Intn(40))
		for i := range min(4, len(b)) {
			if random.Intn(8) > 0 {
				b[i] = 0
			}
		}
		if len(b) > 3 && random.Intn(2) == 0 {
			b[3] %= 40
		}
		wantConsumed(t, b)
	}
}
