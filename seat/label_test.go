package seat_test

import (
	"strings"
	"testing"

	"jetway/api"
	"jetway/seat"
)

// P13.1, Label and Find

func labelIs(t *testing.T, l api.Layout, n int, label string, e api.Errno) {
	t.Helper()
	if s, got := seat.Label(l, n); s != label || got != e {
		t.Errorf("%v, label of %d: %q and %d, want %q and %d", l, n, s, got, label, e)
	}
}

func findIs(t *testing.T, l api.Layout, label string, n int, e api.Errno) {
	t.Helper()
	if m, got := seat.Find(l, label); m != n || got != e {
		t.Errorf("%v, seat of %.40q: %d and %d, want %d and %d", l, label, m, got, n, e)
	}
}

func TestLabelScenes(t *testing.T) {
	for _, c := range []struct {
		l     api.Layout
		n     int
		label string
	}{
		{layout(2, 3, 3), 8, "2C"},
		{layout(2, 3, 3), 0, "1A"},
		{layout(2, 3, 3), 2, "1C"},
		{layout(2, 3, 3), 3, "1D"},
		{layout(2, 3, 3), 5, "1F"},
		{layout(2, 3, 3), 6, "2A"},
		{layout(2, 3, 3), 11, "2F"},
		{layout(1, 1), 0, "1A"},
		{layout(60, 1), 59, "60A"},
		{layout(60, 1), 8, "9A"},
		{layout(60, 1), 9, "10A"},
		{layout(60, 1), 10, "11A"},
		{layout(1, 10), 6, "1G"},
		{layout(1, 10), 7, "1H"},
		{layout(1, 10), 8, "1J"},
		{layout(1, 10), 9, "1K"},
		{layout(60, 3, 4, 3), 599, "60K"},
		{layout(60, 3, 4, 3), 598, "60J"},
		{layout(60, 3, 4, 3), 597, "60H"},
		{layout(60, 3, 4, 3), 590, "60A"},
		{layout(60, 3, 4, 3), 589, "59K"},
		{layout(60, 3, 4, 3), 89, "9K"},
		{layout(60, 3, 4, 3), 90, "10A"},
		{layout(60, 3, 4, 3), 99, "10K"},
		{layout(60, 3, 4, 3), 100, "11A"},
		{layout(20, 1, 2, 3, 1), 6, "1G"},
		{layout(20, 1, 2, 3, 1), 7, "2A"},
		{layout(20, 1, 2, 3, 1), 139, "20G"},
		{layout(20, 2, 2, 3, 1), 7, "1H"},
		{layout(20, 2, 2, 4, 1), 8, "1J"},
	} {
		labelIs(t, c.l, c.n, c.label, api.OK)
		findIs(t, c.l, c.label, c.n, api.OK)
	}
}

func TestLabelOfNoSeat(t *testing.T) {
	for _, l := range []api.Layout{layout(1, 1), layout(2, 3, 3), layout(60, 10), layout(60, 3, 4, 3), layout(9, 1, 1, 1, 1)} {
		many := seat.Count(l)
		labelIs(t, l, -1, "", api.ErrArg)
		labelIs(t, l, many, "", api.ErrArg)
		for _, n := range far {
			if n < 0 || n >= many {
				labelIs(t, l, n, "", api.ErrArg)
			}
		}
	}
}

func TestLabelOfWrongLayout(t *testing.T) {
	for _, l := range wrong() {
		for _, n := range far {
			labelIs(t, l, n, "", api.ErrArg)
		}
		for _, label := range []string{"1A", "", "0", "61A", "1I", "\xff"} {
			findIs(t, l, label, 0, api.ErrArg)
		}
	}
}

func TestFindNoSeat(t *testing.T) {
	all := layout(60, 10)
	for _, label := range []string{
		"", "1", "9", "10", "60", "A", "K", "I", "0", "00",
		"0A", "00A", "01A", "02A", "010A", "060K", "0000001A", "1A0", "10A0",
		"61A", "61K", "99A", "100A", "600A", "110A", "601A",
		"1I", "10I", "60I", "1L", "1M", "1Z", "1@", "1[",
		"1a", "1b", "2c", "60k", "1i",
		"1AA", "1AB", "AA", "A1", "1A1", "A1A", "1KA", "1A ", "1A\x00", "1A\n",
		" 1A", "1 A", "\t1A", " ", "1 ", " A",
		"+1A", "-1A", "1+A", "1-A", "--1A", "1_0A", "1.0A", "1,A", "1e1A", "0x1A", "/A", ":A", "1:", "1/",
		"1\u00c4", "1\u0410", "1\u0391", "1\uff21", "\uff11A", "\u0661A" /* letters like A, digits like 1 */, "1😀", "😀A", "1A😀", "1K\u0301", "\ufeff1A", "1\ufffd", "\ufffdA",
		"1\xff", "\xff", "\xff1A", "1\xffA", "1A\xff", "1\xc3", "1\xc1\x81", "1\x80A", "\xf0\x9f", "1\x00", "\x00A",
		"1\u0141" /* the byte of an A, and 256 */, "\u01311A", "\u0131A",
		strings.Repeat("0", 70000) + "1A", strings.Repeat("1", 70000) + "A", strings.Repeat("9", 1000), "1" + strings.Repeat("A", 1000),
		"18446744073709551617A", "18446744073709551617B", "4294967297A", "9223372036854775809A", "36893488147419103233A", "340282366920938463463374607431768211457A",
		"10000000000000000000001A", "-18446744073709551615A",
	} {
		findIs(t, all, label, 0, api.ErrNone)
	}
}

func TestFindBeyondTheCabin(t *testing.T) {
	l := layout(2, 3, 3)
	for _, label := range []string{"1G", "2G", "2H", "2J", "2K", "3A", "3F", "20A", "60A", "22F", "2I"} {
		findIs(t, l, label, 0, api.ErrNone)
	}
	findIs(t, layout(8, 2), "9A", 0, api.ErrNone)
	findIs(t, layout(9, 2), "9A", 16, api.OK)
	findIs(t, layout(9, 2), "10A", 0, api.ErrNone)
	findIs(t, layout(10, 2), "10A", 18, api.OK)
	findIs(t, layout(10, 2), "10B", 19, api.OK)
	findIs(t, layout(10, 2), "10C", 0, api.ErrNone)
	findIs(t, layout(59, 2), "60A", 0, api.ErrNone)
	findIs(t, layout(60, 9), "1J", 8, api.OK)
	findIs(t, layout(60, 9), "1K", 0, api.ErrNone)
	findIs(t, layout(60, 8), "1H", 7, api.OK)
	findIs(t, layout(60, 8), "1I", 0, api.ErrNone)
	findIs(t, layout(60, 8), "1J", 0, api.ErrNone)
}

// TestFindAllShortTexts: of all texts of up to three bytes from a choice of signs.
func TestFindAllShortTexts(t *testing.T) {
	signs := "0123456789ABCDEFGHIJKLZak@/: -+\x00\xc3\xff"
	texts := []string{""}
	for i := 0; i < len(texts); i++ {
		for j := 0; j < len(signs) && len(texts[i]) < 3; j++ {
			texts = append(texts, texts[i]+signs[j:j+1])
		}
	}
	for _, l := range []api.Layout{layout(60, 10), layout(60, 3, 4, 3), layout(12, 3, 3), layout(9, 1, 1, 1, 1), layout(1, 1)} {
		p, _ := lay(l)
		seats := make(map[string]int)
		for n, s := range p {
			seats[s.label] = n
		}
		found := 0
		for _, text := range texts {
			n, ok := seats[text]
			e := api.ErrNone
			if ok {
				e = api.OK
				found++
			}
			findIs(t, l, text, n, e)
		}
		if found != len(p) {
			t.Fatalf("%v: %d labels, want %d", l, found, len(p))
		}
	}
}

func TestLabelOfAllLayouts(t *testing.T) {
	for _, g := range groupings() {
		for _, rows := range []int{1, 2, 9, 10, 11, 59, 60} {
			l := api.Layout{Rows: rows, Groups: g}
			p, _ := lay(l)
			for n, s := range p {
				labelIs(t, l, n, s.label, api.OK)
			}
			labelIs(t, l, -1, "", api.ErrArg)
			labelIs(t, l, len(p), "", api.ErrArg)
			for _, number := range append(numbers, "0", "61", "") {
				for _, letter := range append(letters, "I", "L", "a", "") {
					label := number + letter
					if p.find(label) < 0 {
						findIs(t, l, label, 0, api.ErrNone)
					}
				}
			}
		}
	}
}
