package seat

import "jetway/api"

// letters are those of a row's seats; there is no I, which looks like a 1.
const letters = "ABCDEFGHJK"

// read takes a label apart: into a row and a column, both from 0 on. It does not know the layout.
func read(label string) (row, column int, ok bool) {
	column = -1
	for _, sign := range label {
		if column >= 0 {
			return 0, 0, false
		}
		if sign < '0' || sign > '9' {
			column = place(sign)
			if column < 0 {
				return 0, 0, false
			}
			continue
		}
		row = row*10 + int(sign-'0')
		// 0 can only be by a leading zero; no row is above the last one, whatever digits are to come.
		if row == 0 || row > api.MaxRows {
			return 0, 0, false
		}
	}
	if row == 0 || column < 0 {
		return 0, 0, false
	}
	return row - 1, column, true
}

// place is a letter's column, or -1.
func place(sign rune) int {
	for i, letter := range letters {
		if letter == sign {
			return i
		}
	}
	return -1
}
