// Package code is layer 1: numbers and texts as bytes, in one way only. See shared/doc/01-code.md.
package code

// A byte of a number holds low, its seven bits; more is set if another byte follows.
const (
	step = 7
	low  = 1<<step - 1
	more = 1 << step
)

// Uint puts a number behind bytes: seven bits a byte, the lowest first, the highest bit of a byte set if more follow.
func Uint(b []byte, n uint64) []byte {
	// Without the third index append might write into the caller's spare room.
	out := b[:len(b):len(b)]
	for n > low {
		out = append(out, byte(n&low|more))
		n >>= step
	}
	return append(out, byte(n))
}

// Int puts a number behind bytes, one below 0 as an odd one.
func Int(b []byte, n int) []byte {
	if n < 0 {
		// -2n - 1, but so that the least number doesn't overflow.
		return Uint(b, uint64(-(n+1))*2+1)
	}
	return Uint(b, uint64(n)*2)
}

// Text puts a text behind bytes: how many bytes it has, and these.
func Text(b []byte, s string) []byte {
	return append(Uint(b, uint64(len(s))), s...)
}

// Size: how many bytes a number has.
func Size(n uint64) int {
	size := 1
	for n > low {
		n >>= step
		size++
	}
	return size
}
