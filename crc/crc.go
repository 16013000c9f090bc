// Package crc is layer 1: see shared/doc/01-crc.md.
package crc

import "jetway/api"

const (
	polynomial uint32 = 0x82F63B78
	allOnes    uint32 = 0xFFFFFFFF
)

// Sum is the checksum of b.
func Sum(b []byte) uint32 { return Add(0, b) }

// Add is the checksum of bytes whose checksum is sum, followed by b.
func Add(sum uint32, b []byte) uint32 {
	r := sum ^ allOnes
	for _, c := range b {
		r = process(r, c)
	}
	return r ^ allOnes
}

// Join is the checksum of two consecutive parts, whose checksums are a and b; n is the length of the second part.
func Join(a, b uint32, n int) (uint32, api.Errno) {
	if n < 0 || n > api.MaxBytes {
		return 0, api.ErrArg
	}
	return skipZeros(a, n) ^ b, api.OK
}

// process is linear in r and c together, which is what lets Join combine checksums by XOR.
func process(r uint32, c byte) uint32 {
	r ^= uint32(c)
	for range 8 {
		r = step(r)
	}
	return r
}

func step(r uint32) uint32 {
	if r%2 == 1 {
		return r/2 ^ polynomial
	}
	return r / 2
}

// skipZeros processes n zero bytes. It takes one matrix for each binary digit of n, so its time grows with the digits of n and not with n.
func skipZeros(r uint32, n int) uint32 {
	skip := zeroByte()
	for ; n > 0; n /= 2 {
		if n%2 == 1 {
			r = skip.times(r)
		}
		skip = skip.square()
	}
	return r
}
