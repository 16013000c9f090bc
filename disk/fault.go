package disk

import "jetway/api"

// schedule is a fault to come, or none, which is the zero one.
type schedule struct {
	set  bool
	left int // how many modifications go ahead of it
}

// Fail lets a change to come fail, Arm the power go ahead of one; Off tells whether it is off.
func (d *Disk) Fail(n int) api.Errno { return d.fail.begin(n) }

func (d *Disk) Arm(n int) api.Errno { return d.arm.begin(n) }

func (d *Disk) Off() bool { return d.off }

func (s *schedule) begin(n int) api.Errno {
	if n < 0 {
		return api.ErrArg
	}
	*s = schedule{set: true, left: n}
	return api.OK
}

// due counts a modification, and tells whether the fault falls on it; then the schedule ends.
func (s *schedule) due() bool {
	if !s.set {
		return false
	}
	if s.left > 0 {
		s.left--
		return false
	}
	*s = schedule{}
	return true
}

// modify calls change, unless a name is not valid or a fault is ahead of it.
func (d *Disk) modify(change func() api.Errno, names ...string) api.Errno {
	if !valid(names...) {
		return api.ErrArg
	}
	if e := d.fault(); e != api.OK {
		return e
	}
	return change()
}

// fault counts a modification, and is the error that befalls it.
func (d *Disk) fault() api.Errno {
	if d.off {
		return api.ErrOff
	}
	if d.arm.due() {
		d.off = true
		return api.ErrOff
	}
	// Counted behind arm, because a modification that the power loss befalls does not count here.
	if d.fail.due() {
		return api.ErrIo
	}
	return api.OK
}
