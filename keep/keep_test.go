package keep

import (
	"bytes"
	"fmt"
	"testing"

	"jetway/api"
)

// P7.1 and P7.2: what is saved, and what is loaded of it. Each of these tests is for hard states and for snapshots.

func TestSecondReading(t *testing.T) {
	secondReading(t, hards())
	secondReading(t, snaps())
}

// secondReading checks the second reading itself: that the values are valid, or not, and different.
func secondReading[T any](t *testing.T, k kept[T]) {
	var zero T
	seen := map[string]int{k.plain(zero): 1}
	for _, v := range k.good {
		seen[k.plain(v)]++
		if _, ok := k.of(k.plain(v)); !ok || seen[k.plain(v)] > 1 {
			t.Errorf("%s: %.60q is not valid, or not the only one", k.file, k.plain(v))
		}
	}
	for _, v := range k.wrong {
		if _, ok := k.of(k.plain(v)); ok {
			t.Errorf("%s: %.60q is valid", k.file, k.plain(v))
		}
	}
}

func TestHardExample(t *testing.T) {
	d := newDisk(t)
	must(t, SaveHard(d, api.Hard{Term: 3, Vote: 1}))
	if h, e := LoadHard(d); h != (api.Hard{Term: 3, Vote: 1}) || e != api.OK {
		t.Errorf("%v, error %d", h, e)
	}
	b, e := d.Read("hard")
	must(t, e)
	if !bytes.Equal(b[:4], []byte{0, 0, 0, 4}) || !bytes.Equal(b[8:], []byte{1, 3, 1, 1}) {
		t.Errorf("the file is %v", b)
	}
}

func TestSavedIsLoaded(t *testing.T) {
	savedIsLoaded(t, hards())
	savedIsLoaded(t, snaps())
}

func savedIsLoaded[T any](t *testing.T, k kept[T]) {
	var zero T
	d := newDisk(t)
	k.wantLoad(t, "nothing was saved", d, zero, api.OK)
	for i, v := range k.good {
		what := fmt.Sprint(k.file, " ", i)
		must(t, k.save(d, v))
		k.wantLoad(t, what, d, v, api.OK)
		k.wantLoad(t, what+", once more", d, v, api.OK)
		wantFiles(t, what, d, map[string]string{k.file: k.text(v)})
		// All of it is synced.
		d.Crash(nil)
		wantFiles(t, what+", a crash", d, map[string]string{k.file: k.text(v)})
		alone := newDisk(t)
		must(t, k.save(alone, v))
		k.wantLoad(t, what+", on a new disk", alone, v, api.OK)
	}
}

func TestTheZeroHardIsSaved(t *testing.T) {
	d := newDisk(t)
	must(t, SaveHard(d, api.Hard{Term: 9, Vote: 9}))
	must(t, SaveHard(d, api.Hard{}))
	wantFiles(t, "zero", d, map[string]string{"hard": framed("\x00\x00")})
	hards().wantLoad(t, "zero", d, api.Hard{}, api.OK)
}

func TestNilDisk(t *testing.T) {
	nilDisk(t, hards())
	nilDisk(t, snaps())
}

func nilDisk[T any](t *testing.T, k kept[T]) {
	var zero T
	want(t, k.file, k.save(nil, k.good[0]), api.ErrArg)
	want(t, k.file, k.save(nil, k.wrong[0]), api.ErrArg)
	k.wantLoad(t, k.file, nil, zero, api.ErrArg)
}

func TestWhatIsNotValidIsRefused(t *testing.T) {
	wrongIsRefused(t, hards())
	wrongIsRefused(t, snaps())
}

func wrongIsRefused[T any](t *testing.T, k kept[T]) {
	for i, v := range k.wrong {
		what := fmt.Sprint(k.file, " ", i)
		files := map[string]string{k.file: k.text(k.good[0]), k.file + ".new": "left"}
		d := diskOf(t, files)
		must(t, d.Fail(0))
		want(t, what, k.save(d, v), api.ErrArg)
		wantFiles(t, what, d, files)
		// It was no modification.
		want(t, what+", the next one", k.save(d, k.good[1]), api.ErrIo)
		powerOff(t, d)
		want(t, what+", no power", k.save(d, v), api.ErrArg)
	}
}

// Only the file and its new name are touched.
func TestOtherFilesStay(t *testing.T) {
	otherFilesStay(t, hards())
	otherFilesStay(t, snaps())
}

func otherFilesStay[T any](t *testing.T, k kept[T]) {
	var zero T
	files := map[string]string{}
	for _, name := range []string{"hard", "hard.new", "snap", "snap.new", "new", ".new", "har", "hard.new.new", "snapx", "wal-00000001", "wal.new"} {
		files[name] = name
	}
	delete(files, k.file)
	d := diskOf(t, files)
	k.wantLoad(t, "no file", d, zero, api.OK)
	wantFiles(t, "load", d, files)
	must(t, k.save(d, k.good[0]))
	files[k.file] = k.text(k.good[0])
	delete(files, k.file+".new")
	wantFiles(t, "save", d, files)
	k.wantLoad(t, "saved", d, k.good[0], api.OK)
	wantFiles(t, "load", d, files)
}

func TestHardAndSnapAreApart(t *testing.T) {
	d := newDisk(t)
	h, s := hards(), snaps()
	must(t, SaveHard(d, h.good[0]))
	s.wantLoad(t, "only a hard state", d, api.Snap{}, api.OK)
	must(t, SaveSnap(d, s.good[0]))
	must(t, SaveHard(d, h.good[1]))
	h.wantLoad(t, "both", d, h.good[1], api.OK)
	s.wantLoad(t, "both", d, s.good[0], api.OK)
}

// A load is no modification, and needs none.
func TestLoadDoesNotModify(t *testing.T) {
	loadDoesNotModify(t, hards())
	loadDoesNotModify(t, snaps())
}

func loadDoesNotModify[T any](t *testing.T, k kept[T]) {
	// What was left of a save is neither loaded nor removed, be it whole or not.
	for _, left := range []string{"", "left", k.text(k.good[1]), k.text(k.good[1])[:9]} {
		for _, text := range []string{k.text(k.good[0]), "no record"} {
			files := map[string]string{k.file: text, k.file + ".new": left}
			d := diskOf(t, files)
			must(t, d.Fail(0))
			must(t, d.Arm(1))
			if text == "no record" {
				var zero T
				k.wantLoad(t, "no record", d, zero, api.ErrForm)
			} else {
				k.wantLoad(t, "a record", d, k.good[0], api.OK)
			}
			wantFiles(t, "load", d, files)
			want(t, "the next one", d.Sync(k.file), api.ErrIo)
			want(t, "the one behind that", d.Sync(k.file), api.ErrOff)
		}
	}
}

func TestLoadWithoutPower(t *testing.T) {
	loadWithoutPower(t, hards())
	loadWithoutPower(t, snaps())
}

func loadWithoutPower[T any](t *testing.T, k kept[T]) {
	var zero T
	for what, files := range map[string]map[string]string{
		"no file": {}, "a file": {k.file: k.text(k.good[0])}, "no record": {k.file: "x"},
	} {
		d := diskOf(t, files)
		powerOff(t, d)
		k.wantLoad(t, what, d, zero, api.ErrOff)
	}
}

// Files that are not what is saved.

func TestFilesCutOff(t *testing.T) {
	filesCutOff(t, hards())
	filesCutOff(t, snaps())
}

func filesCutOff[T any](t *testing.T, k kept[T]) {
	var zero T
	for _, v := range k.good {
		text := k.text(v)
		// Behind each byte of a short file, and ever fewer of a long one.
		for n := 0; n < len(text); n += 1 + n/300 {
			d := diskOf(t, map[string]string{k.file: text[:n]})
			k.wantLoad(t, fmt.Sprint(k.file, " cut off at ", n), d, zero, api.ErrForm)
		}
		d := diskOf(t, map[string]string{k.file: text[:len(text)-1]})
		k.wantLoad(t, k.file+" without its last byte", d, zero, api.ErrForm)
	}
}

func TestFilesWithMore(t *testing.T) {
	filesWithMore(t, hards())
	filesWithMore(t, snaps())
}

func filesWithMore[T any](t *testing.T, k kept[T]) {
	var zero T
	for _, v := range k.good {
		text := k.text(v)
		for _, more := range []string{"\x00", "x", text, framed(""), framed("")[:7], text[:len(text)-1], k.text(k.good[0])} {
			d := diskOf(t, map[string]string{k.file: text + more})
			k.wantLoad(t, k.file+" with more behind", d, zero, api.ErrForm)
		}
		for _, ahead := range []string{"\x00", "x", framed(""), framed("x")} {
			d := diskOf(t, map[string]string{k.file: ahead + text})
			k.wantLoad(t, k.file+" with more ahead", d, zero, api.ErrForm)
		}
	}
}

func TestFilesWithABitTurned(t *testing.T) {
	filesWithABitTurned(t, hards())
	filesWithABitTurned(t, snaps())
}

func filesWithABitTurned[T any](t *testing.T, k kept[T]) {
	var zero T
	for _, v := range k.good {
		text := []byte(k.text(v))
		// Every bit of a short file, and of a long one some, from its head to its end.
		step := 1 + len(text)/1000*20
		for i := 0; i < 8*len(text); i += step {
			text[i/8] ^= 1 << (i % 8)
			d := diskOf(t, map[string]string{k.file: string(text)})
			k.wantLoad(t, fmt.Sprint(k.file, " with bit ", i, " turned"), d, zero, api.ErrForm)
			text[i/8] ^= 1 << (i % 8)
		}
	}
}

// Whole records with another content: what is loaded of them is what the second reading says.
func TestFilesWithAnotherContent(t *testing.T) {
	filesWithAnotherContent(t, hards())
	filesWithAnotherContent(t, snaps())
}

func filesWithAnotherContent[T any](t *testing.T, k kept[T]) {
	for i, v := range k.good {
		content := k.plain(v)
		if len(content) > 100 {
			continue
		}
		what := fmt.Sprint(k.file, " ", i)
		for at := range len(content) {
			k.wantRead(t, what+" cut off", framed(content[:at]))
			k.wantRead(t, what+" from a place on", framed(content[at:]))
			k.wantRead(t, what+" with a zero in it", framed(content[:at]+"\x00"+content[at:]))
			k.wantRead(t, what+" without a byte", framed(content[:at]+content[at+1:]))
			for c := range 256 {
				k.wantRead(t, what+" with another byte", framed(content[:at]+string([]byte{byte(c)})+content[at+1:]))
			}
		}
		for c := range 256 {
			k.wantRead(t, what+" with a byte behind", framed(content+string([]byte{byte(c)})))
			k.wantRead(t, what+" with a byte ahead", framed(string([]byte{byte(c)})+content))
		}
	}
	for a := range 256 {
		for b := range 256 {
			k.wantRead(t, k.file+", two bytes", framed(string([]byte{byte(a), byte(b)})))
		}
	}
}

func TestFilesOfWhatIsNotValid(t *testing.T) {
	filesOfWrong(t, hards())
	filesOfWrong(t, snaps())
}

func filesOfWrong[T any](t *testing.T, k kept[T]) {
	var zero T
	for i, v := range k.wrong {
		if len(k.plain(v)) > 65536 {
			continue
		}
		d := diskOf(t, map[string]string{k.file: k.text(v)})
		k.wantLoad(t, fmt.Sprint(k.file, " ", i), d, zero, api.ErrForm)
	}
}

func TestHardContents(t *testing.T) {
	h := hards()
	for _, content := range []string{
		"",
		"\x00", "\x00\x00", "\x00\x00\x00",
		"\x01\x00\x00",                 // a Term with a leading zero byte
		"\x02\x00\x05\x01\x01",         // too
		"\x01\x05\x01\x00",             // a Vote
		"\x01\x05\x02\x00\x01",         // too
		"\x11\x05\x01\x01",             // a Term that Int would have written, of -5
		"\x01\x05\x11\x01",             // a Vote
		"\x01\x05\x01\x10",             // 16
		"\x09123456789\x01\x01",        // nine bytes
		"\x06\x01\x00\x00\x00\x00\x00", // no Vote
		"\x06\x01\x00\x00\x00\x00\x00\x01\x0f",
		"\x06\x01\x00\x00\x00\x00\x01\x01\x0f", // a Term of 2^40 + 1
		"\x08\xff\xff\xff\xff\xff\xff\xff\xff\x01\x01",
		"\x08\x80\x00\x00\x00\x00\x00\x00\x00\x01\x01",
		"\x01\x01\x08\xff\xff\xff\xff\xff\xff\xff\xff",
		"\x01\x01\x08\x80\x00\x00\x00\x00\x00\x00\x01",
		plainSnap(goodSnaps()[0]),
	} {
		h.wantRead(t, fmt.Sprintf("%q", content), framed(content))
	}
	// The second reading says OK to just two of these.
	h.wantLoad(t, "zeros", diskOf(t, map[string]string{"hard": framed("\x00\x00")}), api.Hard{}, api.OK)
	d := diskOf(t, map[string]string{"hard": framed("\x06\x01\x00\x00\x00\x00\x00\x01\x0f")})
	h.wantLoad(t, "the greatest", d, api.Hard{Term: top, Vote: 15}, api.OK)
}

// The length ahead of a record may say more than a record may have.
func TestFilesTooLongForARecord(t *testing.T) {
	for _, n := range []int{65536, 65537, 200000} {
		d := diskOf(t, map[string]string{"hard": framed(string(make([]byte, n))), "snap": framed(string(make([]byte, n)))})
		hards().wantLoad(t, "long", d, api.Hard{}, api.ErrForm)
		snaps().wantLoad(t, "long", d, api.Snap{}, api.ErrForm)
	}
}

// R3: nothing is shared with arguments, and nothing between results.

func TestSaveAndLoadShareNothing(t *testing.T) {
	k := snaps()
	for _, v := range k.good {
		d := newDisk(t)
		mine := cloneSnap(v)
		must(t, SaveSnap(d, mine))
		if plainSnap(mine) != plainSnap(v) {
			t.Fatal("SaveSnap changed its argument")
		}
		spoil(mine)
		k.wantLoad(t, "behind a change of the argument", d, v, api.OK)
		got, e := LoadSnap(d)
		must(t, e)
		spoil(got)
		k.wantLoad(t, "behind a change of the result", d, v, api.OK)
	}
}
