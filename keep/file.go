package keep

import (
	"slices"

	"jetway/api"
	"jetway/disk"
	"jetway/record"
)

// freshEnd is what a file's name ends with until all its bytes are synced.
const freshEnd = ".new"

// save writes the record of what encode makes of v as a file.
func save[T any](d *disk.Disk, name string, v T, encode func(T) ([]byte, api.Errno)) api.Errno {
	if d == nil {
		return api.ErrArg
	}
	content, e := encode(v)
	if e != api.OK {
		return e
	}
	b, e := record.Put(content)
	if e != api.OK {
		return e
	}
	return write(d, name, b)
}

// load is what decode makes of the content of the record that a file is; without the file it is the zero value.
func load[T any](d *disk.Disk, name string, decode func([]byte) (T, api.Errno)) (T, api.Errno) {
	var zero T
	if d == nil {
		return zero, api.ErrArg
	}
	b, e := d.Read(name)
	if e == api.ErrNone {
		return zero, api.OK
	}
	if e != api.OK {
		return zero, e
	}
	content, ok := single(b)
	if !ok {
		return zero, api.ErrForm
	}
	return decode(content)
}

// write puts b in the place of a file's bytes by its last step alone, so that no crash leaves a part of them.
func write(d *disk.Disk, name string, b []byte) api.Errno {
	fresh := name + freshEnd
	if slices.Contains(d.Names(), fresh) {
		if e := d.Unlink(fresh); e != api.OK {
			return e
		}
	}
	if e := d.Append(fresh, b); e != api.OK {
		return e
	}
	if e := d.Sync(fresh); e != api.OK {
		return e
	}
	return d.Rename(fresh, name)
}

// single is the content of the record that b is, if b is one record and nothing else.
func single(b []byte) ([]byte, bool) {
	contents, used := record.Scan(b)
	if len(contents) != 1 || used != len(b) {
		return nil, false
	}
	return contents[0], true
}
