package keep

import (
	"bytes"
	"fmt"
	"math/rand"
	"slices"
	"testing"

	"jetway/api"
)

// P7.2: Encode and Decode.

// wantCode checks Encode of s and Decode of its encoding against the second reading.
func wantCode(t *testing.T, what string, s api.Snap) {
	t.Helper()
	b, e := Encode(s)
	if !plainValidSnap(s) {
		if len(b) != 0 || e != api.ErrArg {
			t.Fatalf("%s: Encode: %d bytes, error %d", what, len(b), e)
		}
		wantNoCode(t, what, plainSnap(s))
		return
	}
	if string(b) != plainSnap(s) || e != api.OK {
		t.Fatalf("%s: Encode: %.60q, error %d; want %.60q", what, b, e, plainSnap(s))
	}
	got, e := Decode(b)
	if e != api.OK || plainSnap(got) != plainSnap(s) {
		t.Fatalf("%s: Decode: %.60q, error %d; want %.60q", what, plainSnap(got), e, plainSnap(s))
	}
}

func wantNoCode(t *testing.T, what, b string) {
	t.Helper()
	s, e := Decode([]byte(b))
	if e != api.ErrForm || s.Index != 0 || s.Term != 0 || s.Group.Voters != nil || s.Group.Learners != nil || s.Data != nil {
		t.Fatalf("%s: Decode of %.60q: %.60q, error %d", what, b, plainSnap(s), e)
	}
}

// wantDecode checks Decode of any bytes against the second reading.
func wantDecode(t *testing.T, what, b string) {
	t.Helper()
	asked, ok := plainSnapOf(b)
	if !ok {
		wantNoCode(t, what, b)
		return
	}
	s, e := Decode([]byte(b))
	if e != api.OK || plainSnap(s) != plainSnap(asked) {
		t.Fatalf("%s: Decode of %.60q: %.60q, error %d", what, b, plainSnap(s), e)
	}
}

func TestEncodeWrites(t *testing.T) {
	s := api.Snap{Index: 258, Term: 0, Group: api.Group{Voters: []int{1, 15}, Learners: []int{2}}, Data: []byte{7, 8}}
	b, e := Encode(s)
	must(t, e)
	if asked := []byte{2, 1, 2, 0, 1, 2, 1, 1, 1, 15, 1, 1, 1, 2, 1, 2, 7, 8}; !bytes.Equal(b, asked) {
		t.Errorf("%v, want %v", b, asked)
	}
	b, e = Encode(api.Snap{Group: api.Group{Voters: []int{3}}})
	must(t, e)
	if asked := []byte{0, 0, 1, 1, 1, 3, 0, 0}; !bytes.Equal(b, asked) {
		t.Errorf("%v, want %v", b, asked)
	}
}

func TestCodeOfValues(t *testing.T) {
	for i, s := range goodSnaps() {
		wantCode(t, fmt.Sprint("good ", i), s)
	}
	for i, s := range wrongSnaps() {
		wantCode(t, fmt.Sprint("wrong ", i), s)
	}
}

// listsOf are all lists of at most three of these numbers.
func listsOf(numbers ...int) [][]int {
	lists := [][]int{nil}
	for _, a := range numbers {
		lists = append(lists, []int{a})
		for _, b := range numbers {
			lists = append(lists, []int{a, b})
			for _, c := range numbers {
				lists = append(lists, []int{a, b, c})
			}
		}
	}
	return lists
}

func TestCodeOfAllSmallGroups(t *testing.T) {
	lists := listsOf(0, 1, 2, 15, 16)
	valid := 0
	for _, voters := range lists {
		for _, learners := range lists {
			g := api.Group{Voters: voters, Learners: learners}
			if plainValidGroup(g) {
				valid++
			}
			wantCode(t, fmt.Sprint(g), api.Snap{Index: 3, Term: 1, Group: g, Data: []byte("abc")})
		}
	}
	// Each of the nodes 1, 2 and 15 is a voter, a learner or neither, but not all are no voters.
	if valid != 27-8 {
		t.Errorf("%d valid groups", valid)
	}
}

func TestCodeOfSomeGroups(t *testing.T) {
	r := rand.New(rand.NewSource(7))
	for range 5000 {
		var g api.Group
		for n := range 15 {
			switch r.Intn(3) {
			case 0:
				g.Voters = append(g.Voters, n+1)
			case 1:
				g.Learners = append(g.Learners, n+1)
			}
		}
		s := api.Snap{Index: int(r.Int63()) >> r.Intn(63), Term: r.Intn(top + 1), Group: g, Data: someBytes(r.Int63(), r.Intn(300))}
		wantCode(t, "a group", s)
		if l := g.Voters; len(l) > 1 {
			i := r.Intn(len(l) - 1)
			l[i], l[i+1] = l[i+1], l[i]
			wantCode(t, "two voters that are exchanged", s)
		}
	}
}

func TestCodeOfLongData(t *testing.T) {
	for _, n := range []int{0, 1, 255, 256, 257, 4096, 59999, 60000, 60001, 60002, 65535, 65536, 65537, 1 << 20} {
		wantCode(t, fmt.Sprint(n, " bytes"), api.Snap{Index: 1, Term: 1, Group: api.Group{Voters: []int{1}}, Data: someBytes(int64(n), n)})
		wantCode(t, fmt.Sprint(n, " bytes"), api.Snap{Index: top, Term: top, Group: api.Group{Voters: all()}, Data: someBytes(int64(n), n)})
	}
}

func TestDecodeOfOtherBytes(t *testing.T) {
	for _, s := range goodSnaps() {
		b := plainSnap(s)
		if len(b) > 100 {
			continue
		}
		for at := range len(b) {
			wantNoCode(t, "cut off", b[:at])
			wantDecode(t, "from a place on", b[at:])
			wantDecode(t, "without a byte", b[:at]+b[at+1:])
			for c := range 256 {
				one := string([]byte{byte(c)})
				wantDecode(t, "with another byte", b[:at]+one+b[at+1:])
				wantDecode(t, "with a byte more", b[:at]+one+b[at:])
			}
		}
		for c := range 256 {
			wantNoCode(t, "with a byte behind", b+string([]byte{byte(c)}))
		}
		wantNoCode(t, "twice", b+b)
	}
}

func TestDecodeOfLongBytes(t *testing.T) {
	for _, s := range goodSnaps() {
		b := plainSnap(s)
		if len(b) <= 100 {
			continue
		}
		for _, n := range []int{0, 1, 10, 50, len(b) / 2, len(b) - 2, len(b) - 1} {
			wantNoCode(t, "cut off", b[:n])
		}
		wantNoCode(t, "with a byte behind", b+"\x00")
	}
	for _, n := range []int{8, 1000, 1 << 20} {
		wantNoCode(t, "zeros", string(make([]byte, n)))
		wantNoCode(t, "ones", string(bytes.Repeat([]byte{1}, n)))
	}
}

// Contents that differ in one place from that of a snapshot with Index 1, Term 2, voter 3, learner 4 and the Data 9.
func TestDecodeOfWrongForms(t *testing.T) {
	good := []string{"\x01\x01", "\x01\x02", "\x01\x01\x01\x03", "\x01\x01\x01\x04", "\x01\x01\x09"}
	join := func(at int, part string) string {
		l := slices.Clone(good)
		l[at] = part
		return l[0] + l[1] + l[2] + l[3] + l[4]
	}
	if s, e := Decode([]byte(join(0, good[0]))); e != api.OK || s.Index != 1 || s.Term != 2 || s.Group.Voters[0] != 3 || s.Group.Learners[0] != 4 || s.Data[0] != 9 {
		t.Fatalf("%v, error %d", s, e)
	}
	index := []string{
		"", "\x01\x00", "\x02\x00\x01", "\x11\x01", "\x09123456789", "\xff",
		number(top + 1), "\x08\xff\xff\xff\xff\xff\xff\xff\xff", "\x08\x80\x00\x00\x00\x00\x00\x00\x01",
	}
	nodes := []string{
		"", "\x01\x01", "\x01\x02\x01\x05", "\x01\x01\x01\x05\x01\x06", "\x01\x01\x00", "\x01\x01\x01\x10", "\x01\x01\x02\x01\x03",
		"\x01\x02\x01\x06\x01\x05", "\x01\x02\x01\x05\x01\x05", "\x01\x02\x01\x03\x01\x04", "\x02\x00\x01\x01\x05", "\x11\x01\x01\x05",
		"\x01\x01\x11\x05", "\x01\x10", "\x08\xff\xff\xff\xff\xff\xff\xff\xff", "\x08\x80\x00\x00\x00\x00\x00\x00\x00",
	}
	data := []string{
		"", "\x01\x00", "\x01\x01", "\x01\x02\x09", "\x01\x01\x09\x09", "\x02\x00\x01\x09", "\x11\x01\x09", "\x00\x09",
		"\x08\xff\xff\xff\xff\xff\xff\xff\xff\x09", number(60001) + string(make([]byte, 60001)),
	}
	for at, parts := range [][]string{index, index, append(nodes, "\x00"), nodes, data} {
		for _, part := range parts {
			wantNoCode(t, fmt.Sprintf("part %d is %.20q", at, part), join(at, part))
		}
	}
	// No learners, and no Data.
	wantDecode(t, "no learners", join(3, "\x00"))
	wantDecode(t, "no Data", join(4, "\x00"))
}

// All bytes of at most eleven small numbers.
func TestDecodeOfAllSmallBytes(t *testing.T) {
	decoded := 0
	var try func(b string)
	try = func(b string) {
		wantDecode(t, "small bytes", b)
		if _, ok := plainSnapOf(b); ok {
			decoded++
		}
		if len(b) < 11 {
			try(b + "\x00")
			try(b + "\x01")
			try(b + "\x02")
		}
	}
	try("")
	if decoded < 20 {
		t.Errorf("only %d of them are snapshots", decoded)
	}
}

// R2

func TestNilAndEmptyListsAreEquivalent(t *testing.T) {
	a, e := Encode(api.Snap{Group: api.Group{Voters: []int{1}}})
	must(t, e)
	b, e := Encode(api.Snap{Group: api.Group{Voters: []int{1}, Learners: []int{}}, Data: []byte{}})
	must(t, e)
	if !bytes.Equal(a, b) {
		t.Errorf("%v and %v", a, b)
	}
	for _, voters := range [][]int{nil, {}} {
		_, e = Encode(api.Snap{Group: api.Group{Voters: voters}})
		want(t, "no voters", e, api.ErrArg)
	}
	for _, b := range [][]byte{nil, {}} {
		_, e = Decode(b)
		want(t, "no bytes", e, api.ErrForm)
	}
}

// R3

func TestCodeSharesNothing(t *testing.T) {
	for _, s := range goodSnaps() {
		mine := cloneSnap(s)
		b, e := Encode(mine)
		must(t, e)
		if plainSnap(mine) != plainSnap(s) {
			t.Fatal("Encode changed its argument")
		}
		spoil(mine)
		if string(b) != plainSnap(s) {
			t.Fatal("the encoding shares memory with the snapshot")
		}
		got, e := Decode(b)
		must(t, e)
		if string(b) != plainSnap(s) {
			t.Fatal("Decode changed its argument")
		}
		clear(b)
		if plainSnap(got) != plainSnap(s) {
			t.Fatal("the snapshot shares memory with its encoding")
		}
		// What is put behind one list must not be seen in another one.
		_ = append(got.Group.Voters, 77)
		_ = append(got.Group.Learners, 77)
		_ = append(got.Data, 77)
		if plainSnap(got) != plainSnap(s) {
			t.Fatal("lists of the snapshot share memory")
		}
	}
}
