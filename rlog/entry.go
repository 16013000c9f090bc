package rlog

import "jetway/api"

const mostKind = 7 // of an entry

// validIndex holds for Terms as well.
func validIndex(n int) bool { return 0 <= n && n <= api.MaxIndex }

func allValid(l []api.Entry) bool {
	for _, e := range l {
		// An entry's Index is from 1 on, because 0 is what is ahead of the first one.
		if e.Index == 0 || !validIndex(e.Index) || !validIndex(e.Term) || e.Kind < 0 || e.Kind > mostKind || len(e.Data) > api.MaxData {
			return false
		}
	}
	return true
}

// follow tells whether the entries, which are valid, follow the index i with the term.
func follow(l []api.Entry, i, term int) bool {
	for _, e := range l {
		if e.Index != i+1 || e.Term < term {
			return false
		}
		i, term = e.Index, e.Term
	}
	return true
}

// behind are those of the entries, which rise, whose Index is above base.
func behind(l []api.Entry, base int) []api.Entry {
	for len(l) > 0 && l[0].Index <= base {
		l = l[1:]
	}
	return l
}
