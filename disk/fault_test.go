package disk

import (
	"maps"
	"math"
	"testing"

	"jetway/api"
)

// started has a file of each kind: all bytes synced, some, none, and no bytes.
func started(t *testing.T) *Disk {
	t.Helper()
	d := newDisk(t, 20)
	must(t, d.Append("all", []byte("123")))
	must(t, d.Sync("all"))
	must(t, d.Append("bare", nil))
	must(t, d.Append("none", []byte("456")))
	must(t, d.Append("some", []byte("78")))
	must(t, d.Sync("some"))
	must(t, d.Append("some", []byte("901")))
	return d
}

func startedContent() map[string]string {
	return map[string]string{"all": "123", "bare": "", "none": "456", "some": "78901"}
}

func startedSynced() map[string]string {
	return map[string]string{"all": "123", "bare": "", "none": "", "some": "78"}
}

// P4.3

func TestFailAndArmRefuseWrongNumbers(t *testing.T) {
	d := started(t)
	wrong := []int{-1, -2, -1000, math.MinInt}
	for _, n := range wrong {
		want(t, "Fail", d.Fail(n), api.ErrArg)
		want(t, "Arm", d.Arm(n), api.ErrArg)
	}
	for range 5 {
		want(t, "nothing scheduled", d.Sync("all"), api.OK)
	}
	must(t, d.Fail(1))
	must(t, d.Arm(3))
	for _, n := range wrong {
		want(t, "Fail", d.Fail(n), api.ErrArg)
		want(t, "Arm", d.Arm(n), api.ErrArg)
	}
	// What was scheduled stays as it was.
	want(t, "the first", d.Sync("all"), api.OK)
	want(t, "the second", d.Sync("all"), api.ErrIo)
	want(t, "the third", d.Sync("all"), api.OK)
	want(t, "the fourth", d.Sync("all"), api.ErrOff)
}

func TestFailFallsOnEachKind(t *testing.T) {
	for _, m := range modifications() {
		for _, n := range []int{0, 1, 2, 7} {
			d := started(t)
			want(t, "Fail", d.Fail(n), api.OK)
			for range n {
				want(t, "ahead of it", d.Rename("bare", "bare"), api.OK)
			}
			want(t, m.name, m.call(d, "some", "none"), api.ErrIo)
			if d.Off() {
				t.Error("an I/O error has taken the power")
			}
			wantContent(t, m.name, d, startedContent())
			wantSynced(t, m.name, d, startedSynced())
			for range n + 3 {
				want(t, "behind it", d.Rename("bare", "bare"), api.OK)
			}
		}
	}
}

func TestFailFallsOnWhatWouldBeRefused(t *testing.T) {
	for _, m := range modifications() {
		d := started(t)
		must(t, d.Fail(0))
		want(t, m.name, m.call(d, "x", "y"), api.ErrIo)
		wantContent(t, m.name, d, startedContent())
	}
}

func TestArmFallsOnEachKind(t *testing.T) {
	for _, m := range modifications() {
		for _, n := range []int{0, 1, 2, 7} {
			d := started(t)
			want(t, "Arm", d.Arm(n), api.OK)
			for range n {
				want(t, "ahead of it", d.Rename("bare", "bare"), api.OK)
				if d.Off() {
					t.Error("the power is off too soon")
				}
			}
			want(t, m.name, m.call(d, "some", "none"), api.ErrOff)
			if !d.Off() {
				t.Error("the power is on")
			}
			wantSynced(t, m.name, d, startedSynced())
			d.Crash([]int{9, 9, 9, 9})
			wantContent(t, m.name, d, startedContent())
			for range n + 3 {
				want(t, "behind it", d.Rename("bare", "bare"), api.OK)
			}
		}
	}
}

func TestArmFallsOnWhatWouldBeRefused(t *testing.T) {
	for _, m := range modifications() {
		d := started(t)
		must(t, d.Arm(0))
		want(t, m.name, m.call(d, "x", "y"), api.ErrOff)
		if !d.Off() {
			t.Error("the power is on")
		}
	}
}

func TestFarSchedules(t *testing.T) {
	d := started(t)
	want(t, "Fail", d.Fail(math.MaxInt), api.OK)
	want(t, "Arm", d.Arm(math.MaxInt), api.OK)
	for range 1000 {
		want(t, "long ahead of them", d.Sync("some"), api.OK)
	}
}

// refusals are modifications that fail by themselves: they count for both schedules.
func refusals() map[string]func(d *Disk) api.Errno {
	return map[string]func(d *Disk) api.Errno{
		"Append":      func(d *Disk) api.Errno { return d.Append("all", make([]byte, 21)) },
		"Sync":        func(d *Disk) api.Errno { return d.Sync("x") },
		"Rename":      func(d *Disk) api.Errno { return d.Rename("x", "all") },
		"Rename of x": func(d *Disk) api.Errno { return d.Rename("x", "x") },
		"Unlink":      func(d *Disk) api.Errno { return d.Unlink("x") },
	}
}

func TestRefusedModificationsCount(t *testing.T) {
	for name, call := range refusals() {
		asked := api.ErrNone
		if name == "Append" {
			asked = api.ErrFull
		}
		d := started(t)
		must(t, d.Fail(2))
		must(t, d.Arm(4))
		want(t, name+", the first", call(d), asked)
		want(t, name+", the second", call(d), asked)
		want(t, name+", the third", d.Sync("all"), api.ErrIo)
		want(t, name+", the fourth", call(d), asked)
		want(t, name+", the fifth", call(d), api.ErrOff)
		d.Crash([]int{9, 9, 9, 9})
		wantContent(t, name, d, startedContent())
	}
}

func TestAnErrorCountsForArm(t *testing.T) {
	d := started(t)
	must(t, d.Arm(1))
	must(t, d.Fail(0))
	want(t, "the first", d.Sync("all"), api.ErrIo)
	want(t, "the second", d.Sync("all"), api.ErrOff)
}

func TestBothAtOnce(t *testing.T) {
	for _, n := range []int{0, 1, 3} {
		d := started(t)
		must(t, d.Fail(n))
		must(t, d.Arm(n))
		for range n {
			want(t, "ahead of both", d.Sync("all"), api.OK)
		}
		want(t, "both", d.Sync("all"), api.ErrOff)
		if !d.Off() {
			t.Error("the power is on")
		}
		d.Crash(nil)
		want(t, "behind both", d.Sync("all"), api.OK)
	}
}

func TestLaterSchedulesReplace(t *testing.T) {
	d := started(t)
	must(t, d.Fail(0))
	must(t, d.Fail(2))
	want(t, "the first", d.Sync("all"), api.OK)
	must(t, d.Fail(3))
	for range 3 {
		want(t, "ahead of it", d.Sync("all"), api.OK)
	}
	want(t, "the error", d.Sync("all"), api.ErrIo)
	want(t, "behind it", d.Sync("all"), api.OK)
	must(t, d.Arm(0))
	must(t, d.Arm(2))
	want(t, "the first", d.Sync("all"), api.OK)
	must(t, d.Arm(5))
	must(t, d.Arm(1))
	want(t, "ahead of it", d.Sync("all"), api.OK)
	want(t, "the power loss", d.Sync("all"), api.ErrOff)
}

func TestSchedulesOfOtherKindsStay(t *testing.T) {
	d := started(t)
	must(t, d.Fail(1))
	must(t, d.Arm(7))
	must(t, d.Arm(3))
	want(t, "the first", d.Sync("all"), api.OK)
	want(t, "the error", d.Sync("all"), api.ErrIo)
	// A schedule that has taken effect may be followed by another one.
	must(t, d.Fail(0))
	want(t, "the other error", d.Sync("all"), api.ErrIo)
	want(t, "the power loss", d.Sync("all"), api.ErrOff)
}

func TestSchedulesWithoutPower(t *testing.T) {
	d := started(t)
	must(t, d.Arm(0))
	want(t, "the power loss", d.Sync("all"), api.ErrOff)
	want(t, "Fail", d.Fail(0), api.OK)
	want(t, "Arm", d.Arm(0), api.OK)
	want(t, "Fail", d.Fail(-1), api.ErrArg)
	want(t, "Arm", d.Arm(-1), api.ErrArg)
	want(t, "without power", d.Sync("all"), api.ErrOff)
	d.Crash(nil)
	for range 3 {
		want(t, "after the crash", d.Sync("all"), api.OK)
	}
}

// P4.4

func TestCrashExample(t *testing.T) {
	for _, c := range []struct {
		keep []int
		want string
	}{{nil, "\x01\x02"}, {[]int{1}, "\x01\x02\x03"}} {
		d := newDisk(t, 10)
		must(t, d.Append("a", []byte{1, 2}))
		must(t, d.Sync("a"))
		must(t, d.Append("a", []byte{3}))
		d.Crash(c.keep)
		wantContent(t, "the example", d, map[string]string{"a": c.want})
	}
}

func TestCrashKeeps(t *testing.T) {
	for _, c := range []struct {
		keep       []int
		none, some string
	}{
		{nil, "", "78"},
		{[]int{}, "", "78"},
		{[]int{0, 0, 0, 0}, "", "78"},
		{[]int{9}, "", "78"},
		{[]int{9, 9, 2}, "45", "78"},
		{[]int{0, 0, 0, 1}, "", "789"},
		{[]int{0, 0, 3, 2}, "456", "7890"},
		{[]int{1, 1, 1, 3}, "4", "78901"},
		{[]int{9, 9, 4, 4}, "456", "78901"},
		{[]int{math.MaxInt, math.MaxInt, math.MaxInt, math.MaxInt}, "456", "78901"},
		{[]int{-1, -1, -1, -1}, "", "78"},
		{[]int{math.MinInt, math.MinInt, math.MinInt, math.MinInt}, "", "78"},
		{[]int{-5, -5, 1, -5}, "4", "78"},
		{[]int{0, 0, 1, 1, 5, 5, -5}, "4", "789"},
	} {
		d := started(t)
		d.Crash(c.keep)
		asked := map[string]string{"all": "123", "bare": "", "none": c.none, "some": c.some}
		wantContent(t, "Crash", d, asked)
		// What is left is synced.
		wantSynced(t, "Crash", d, asked)
		must(t, d.Append("none", []byte("x")))
		must(t, d.Append("all", []byte("yz")))
		wantSynced(t, "Append behind a crash", d, asked)
		d.Crash([]int{1, 0, 5})
		asked["all"] += "y"
		asked["none"] += "x"
		wantContent(t, "another crash", d, asked)
	}
}

func TestCrashOfNoFiles(t *testing.T) {
	for _, keep := range [][]int{nil, {1, 2, 3}} {
		d := newDisk(t, 3)
		d.Crash(keep)
		wantContent(t, "no files", d, nil)
		want(t, "Append", d.Append("a", []byte("123")), api.OK)
	}
}

func TestCrashGoesByTheNamesOfThen(t *testing.T) {
	d := newDisk(t, 20)
	must(t, d.Append("c", []byte("123")))
	must(t, d.Append("a", []byte("456")))
	must(t, d.Append("b", []byte("789")))
	must(t, d.Rename("a", "d"))
	d.Crash([]int{1, 2, 3})
	wantContent(t, "Crash", d, map[string]string{"b": "7", "c": "12", "d": "456"})
}

func TestCrashEndsTheSchedules(t *testing.T) {
	for _, n := range []int{0, 1, 5} {
		d := started(t)
		must(t, d.Fail(n))
		must(t, d.Arm(n))
		d.Crash(nil)
		for range n + 3 {
			want(t, "after a crash", d.Sync("all"), api.OK)
		}
		must(t, d.Fail(1))
		want(t, "a new schedule", d.Sync("all"), api.OK)
		want(t, "a new error", d.Sync("all"), api.ErrIo)
		must(t, d.Arm(0))
		want(t, "a new power loss", d.Sync("all"), api.ErrOff)
		d.Crash(nil)
		if d.Off() {
			t.Error("the power is off after a crash")
		}
		want(t, "after another crash", d.Sync("all"), api.OK)
	}
}

// P4.5

// A call that returns an error changes nothing, whatever its error is.
func TestErrorsChangeNothing(t *testing.T) {
	states := map[string]func(d *Disk){
		"with nothing scheduled": func(d *Disk) {},
		"ahead of an error":      func(d *Disk) { d.Fail(0) },
		"ahead of a power loss":  func(d *Disk) { d.Arm(0) },
		"without power":          func(d *Disk) { d.Arm(0); d.Sync("all") },
	}
	for state, prepare := range states {
		for _, m := range modifications() {
			for _, names := range [][2]string{{"all", "none"}, {"x", "y"}, {"x", "x"}, {"some", "some"}, {"A", "all"}} {
				d := started(t)
				prepare(d)
				e := m.call(d, names[0], names[1])
				if e == api.OK {
					continue
				}
				wantSynced(t, m.name+" "+state, d, startedSynced())
				d.Crash([]int{9, 9, 9, 9})
				if got := content(t, d); !maps.Equal(got, startedContent()) {
					t.Errorf("%s %s: error %d, and the disk has %q", m.name, state, e, got)
				}
			}
		}
	}
}
