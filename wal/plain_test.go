package wal

import (
	"encoding/binary"
	"fmt"
	"hash/crc32"
	"maps"
	"math/big"
	"slices"
	"strings"

	"jetway/api"
	"jetway/disk"
)

// This file follows the document's words by other means than the package does: files are strings, a log is a value that is made anew by each record, and what is done to a disk is a list of operations.

const top = 1 << 40 // the greatest Index

func num(n int) string {
	b := new(big.Int).SetUint64(uint64(n)).Bytes()
	return string(append([]byte{byte(len(b))}, b...))
}

func nums(l ...int) string {
	s := ""
	for _, n := range l {
		s += num(n)
	}
	return s
}

// rec is the record of a content, by the library's checksum.
func rec(content string) string {
	b := binary.BigEndian.AppendUint32(nil, uint32(len(content)))
	sum := crc32.Checksum(append(slices.Clone(b), content...), crc32.MakeTable(crc32.Castagnoli))
	return string(binary.BigEndian.AppendUint32(b, sum)) + content
}

func head(number, next int) string { return rec(nums(0, number, next)) }

func entry(e api.Entry) string {
	return rec(nums(1, e.Index, e.Term, e.Kind, len(e.Data)) + string(e.Data))
}

func cut(from int) string { return rec(nums(2, from)) }

func reset(next int) string { return rec(nums(3, next)) }

func seg(number int) string { return fmt.Sprintf("wal-%08d", number) }

// segNumber is 0 for names of other files.
func segNumber(name string) int {
	n := 0
	if _, err := fmt.Sscanf(name, "wal-%d", &n); err != nil || n < 1 || seg(n) != name || len(name) != 12 {
		return 0
	}
	return n
}

// plainLog is never modified: what modifies it makes another one.
type plainLog struct {
	base    int
	entries []api.Entry
}

func (l plainLog) last() int { return l.base + len(l.entries) }

func (l plainLog) with(e api.Entry) plainLog {
	e.Data = slices.Clone(e.Data)
	return plainLog{l.base, append(slices.Clip(l.entries), e)}
}

func (l plainLog) without(from int) plainLog {
	if from <= l.base {
		return plainLog{base: from - 1}
	}
	var kept []api.Entry
	for _, e := range l.entries {
		if e.Index < from {
			kept = append(kept, e)
		}
	}
	return plainLog{l.base, kept}
}

// first takes a number off s.
func first(s string) (int, string, bool) {
	if s == "" || int(s[0]) > 7 || len(s) <= int(s[0]) {
		return 0, "", false
	}
	n := int(new(big.Int).SetBytes([]byte(s[1 : 1+s[0]])).Int64())
	return n, s[1+s[0]:], strings.HasPrefix(s, num(n))
}

// parts takes many numbers off s.
func parts(s string, many int) (l []int, rest string, ok bool) {
	for range many {
		var n int
		if n, s, ok = first(s); !ok {
			return nil, "", false
		}
		l = append(l, n)
	}
	return l, s, true
}

// after is the log that a content makes of l, if it may; the HEAD is not one of these.
func (l plainLog) after(content string) (plainLog, bool) {
	kind, rest, ok := first(content)
	if !ok || kind < 1 || kind > 3 {
		return l, false
	}
	if kind == 1 {
		n, data, ok := parts(rest, 4)
		if !ok || n[0] != l.last()+1 || n[0] > top || n[1] > top || n[2] > 7 || n[3] > 4096 || n[3] != len(data) {
			return l, false
		}
		return l.with(api.Entry{Index: n[0], Term: n[1], Kind: n[2], Data: []byte(data)}), true
	}
	n, none, ok := first(rest)
	if !ok || none != "" || n < 1 || n > top+1 {
		return l, false
	}
	if kind == 3 {
		return plainLog{base: n - 1}, true
	}
	return l.without(n), true
}

// contents are those of the records at the beginning of b.
func contents(b string) (l []string, used int) {
	for len(b)-used >= 8 {
		n := int(binary.BigEndian.Uint32([]byte(b[used:])))
		if n > 65536 || n > len(b)-used-8 || rec(b[used+8:used+8+n]) != b[used:used+8+n] {
			break
		}
		l = append(l, b[used+8:used+8+n])
		used += 8 + n
	}
	return l, used
}

func segments(files map[string]string) []string {
	var out []string
	for _, name := range slices.Sorted(maps.Keys(files)) {
		if segNumber(name) > 0 {
			out = append(out, name)
		}
	}
	return out
}

// recoverable is the log, how many segments have their HEAD in it, and how many bytes of the last of these are part of it.
func recoverable(files map[string]string) (l plainLog, many, size int) {
	names := segments(files)
	for i, name := range names {
		number := segNumber(name)
		if i > 0 && number != segNumber(names[i-1])+1 {
			return l, many, size
		}
		all, _ := contents(files[name])
		if len(all) == 0 {
			return l, many, size
		}
		n, rest, ok := parts(all[0], 3)
		if !ok || rest != "" || n[0] != 0 || n[1] != number || n[2] < 1 || n[2] > top+1 {
			return l, many, size
		}
		if i == 0 {
			l = plainLog{base: n[2] - 1}
		} else if n[2] != l.last()+1 {
			return l, many, size
		}
		many, size = many+1, 8+len(all[0])
		for _, content := range all[1:] {
			next, ok := l.after(content)
			if !ok {
				return l, many, size
			}
			l, size = next, size+8+len(content)
		}
		if size < len(files[name]) {
			return l, many, size
		}
	}
	return l, many, size
}

// op is an operation on a disk.
type op struct{ what, name, text string }

func (o op) do(d *disk.Disk) api.Errno {
	switch o.what {
	case "append":
		return d.Append(o.name, []byte(o.text))
	case "sync":
		return d.Sync(o.name)
	case "rename":
		return d.Rename(o.name, o.text)
	}
	return d.Unlink(o.name)
}

// plainWal is a log and the files that belong to it.
type plainWal struct {
	limit int
	files map[string]string
	log   plainLog
}

// op is done to the files, unless a disk refuses it, and then to nothing.
func (p *plainWal) op(what, name, text string) op {
	switch what {
	case "append":
		p.files[name] += text
	case "rename":
		p.files[text] = p.files[name]
		delete(p.files, name)
	case "unlink":
		delete(p.files, name)
	}
	return op{what, name, text}
}

func (p *plainWal) create(number int) []op {
	return []op{p.op("append", seg(number), head(number, p.log.last()+1)), p.op("sync", seg(number), "")}
}

// plainOpen is the log on the files, and what must be done to the disk for it.
func plainOpen(files map[string]string, limit int) (*plainWal, []op) {
	p := &plainWal{limit: limit, files: maps.Clone(files)}
	var ops []op
	if _, ok := files["wal.new"]; ok {
		ops = append(ops, p.op("unlink", "wal.new", ""))
	}
	l, many, size := recoverable(files)
	p.log = l
	names := segments(files)
	if many > 0 && size < len(files[names[many-1]]) {
		name := names[many-1]
		ops = append(ops, p.op("append", "wal.new", files[name][:size]), p.op("sync", "wal.new", ""), p.op("rename", "wal.new", name))
	}
	for _, name := range names[many:] {
		ops = append(ops, p.op("unlink", name, ""))
	}
	if many == 0 {
		ops = append(ops, p.create(1)...)
	}
	return p, ops
}

func (p *plainWal) lastSegment() string {
	names := segments(p.files)
	return names[len(names)-1]
}

func plainValid(e api.Entry) bool {
	return e.Index >= 1 && e.Index <= top && e.Term >= 0 && e.Term <= top && e.Kind >= 0 && e.Kind <= 7 && len(e.Data) <= 4096
}

func (p *plainWal) append(l []api.Entry) (ops []op, e api.Errno) {
	for _, x := range l {
		if !plainValid(x) {
			return nil, api.ErrArg
		}
	}
	for i, x := range l {
		if x.Index != p.log.last()+i+1 {
			return nil, api.ErrOrder
		}
	}
	for _, x := range l {
		if name := p.lastSegment(); len(p.files[name]) >= p.limit {
			ops = append(ops, p.op("sync", name, ""))
			ops = append(ops, p.create(segNumber(name)+1)...)
		}
		ops = append(ops, p.op("append", p.lastSegment(), entry(x)))
		p.log = p.log.with(x)
	}
	return ops, api.OK
}

func (p *plainWal) cut(from int) ([]op, api.Errno) {
	if from <= p.log.base || from > p.log.last()+1 {
		return nil, api.ErrOrder
	}
	if from == p.log.last()+1 {
		return nil, api.OK
	}
	p.log = p.log.without(from)
	return []op{p.op("append", p.lastSegment(), cut(from))}, api.OK
}

func (p *plainWal) reset(next int) ([]op, api.Errno) {
	if next < 1 || next > top {
		return nil, api.ErrArg
	}
	p.log = plainLog{base: next - 1}
	return []op{p.op("append", p.lastSegment(), reset(next))}, api.OK
}

func (p *plainWal) sync() ([]op, api.Errno) {
	return []op{p.op("sync", p.lastSegment(), "")}, api.OK
}

// nextOf is the next Index of a segment's HEAD.
func (p *plainWal) nextOf(name string) int {
	all, _ := contents(p.files[name])
	n, _, _ := parts(all[0], 3)
	return n[2]
}

func (p *plainWal) drop(before int) (ops []op, e api.Errno) {
	if before > p.log.last()+1 {
		return nil, api.ErrOrder
	}
	for {
		names := segments(p.files)
		if len(names) < 2 || p.nextOf(names[1]) > before {
			break
		}
		ops = append(ops, p.op("unlink", names[0], ""))
	}
	p.log, _, _ = recoverable(p.files)
	return ops, api.OK
}
