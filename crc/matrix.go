package crc

// matrix is a linear map of 32-bit numbers: its element i is what bit i is mapped to.
type matrix [32]uint32

// zeroByte is the map that processing one zero byte is.
func zeroByte() matrix {
	var m matrix
	for i := range 32 {
		m[i] = process(1<<i, 0)
	}
	return m
}

func (m matrix) times(r uint32) uint32 {
	var product uint32
	for i := range 32 {
		if r>>i&1 == 1 {
			product ^= m[i]
		}
	}
	return product
}

// square is the map that m is when it is applied twice.
func (m matrix) square() matrix {
	var twice matrix
	for i := range 32 {
		twice[i] = m.times(m[i])
	}
	return twice
}
