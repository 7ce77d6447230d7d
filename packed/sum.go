package packed

const (
	allBits   = 4294967295
	feedback  = 3988292384
	bitsAByte = 8
)

// sum is the check CRC-32, bit by bit: packed policies are too short for a table to be worth it.
func sum(b []byte) uint32 {
	n := uint32(allBits)
	for _, c := range b {
		n ^= uint32(c)
		for range bitsAByte {
			n = shifted(n)
		}
	}
	return ^n
}

func shifted(n uint32) uint32 {
	if n&1 == 1 {
		return n>>1 ^ feedback
	}
	return n >> 1
}
