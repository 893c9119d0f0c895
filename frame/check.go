package frame

// A check has 32 bits, and checkSize bytes; turned is taken in for each bit that fell out.
const (
	allBits   = 1<<32 - 1
	turned    = 0x82f63b78
	byteBits  = 8
	checkSize = 4
)

// Sum: the CRC-32C of bytes.
func Sum(b []byte) uint32 {
	sum := uint32(allBits)
	for _, c := range b {
		sum ^= uint32(c)
		for range byteBits {
			out := sum & 1
			// -out has all bits set if the one that fell out was, and none else.
			sum = sum>>1 ^ turned&-out
		}
	}
	return ^sum
}

// tail answers the check of b as bytes, the lowest first.
func tail(b []byte) []byte {
	sum := Sum(b)
	var out []byte
	for range checkSize {
		out = append(out, byte(sum))
		sum >>= byteBits
	}
	return out
}
