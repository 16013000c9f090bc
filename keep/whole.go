package keep

import (
	"bytes"

	"jetway/api"
)

// Part is a part of bytes: from a place on, so many.
func Part(b []byte, at, size int) ([]byte, api.Errno) {
	if len(b) > api.MaxRecord || at < 0 || at > len(b) || size < 1 {
		return nil, api.ErrArg
	}
	rest := b[at:]
	return bytes.Clone(rest[:min(size, len(rest))]), api.OK
}

// Whole puts parts together. The zero one contains nothing.
type Whole struct {
	begun bool // there was a part at 0; it may have been empty
	total int  // of that part
	bytes []byte
}

func (w *Whole) Put(at, total int, b []byte) api.Errno {
	// No Whole at all takes nothing, so that no call panics.
	if w == nil || total < 0 || total > api.MaxRecord || at < 0 || at > total || len(b) > total-at {
		return api.ErrArg
	}
	if at == 0 {
		*w = Whole{begun: true, total: total, bytes: bytes.Clone(b)}
		return api.OK
	}
	if !w.begun || at != len(w.bytes) || total != w.total {
		return api.ErrOrder
	}
	w.bytes = append(w.bytes, b...)
	return api.OK
}

func (w *Whole) Done() ([]byte, bool) {
	if w == nil || !w.begun || len(w.bytes) != w.total {
		return nil, false
	}
	return bytes.Clone(w.bytes), true
}
