package code

// Reader goes over bytes; behind the first fault it has nothing more.
type Reader struct {
	rest string
	bad  bool
}

// Read: a reader of bytes; they are copied.
func Read(b []byte) *Reader { return &Reader{rest: string(b)} }

// Uint: a number; 0, and a fault, if none stands there, or one that could be shorter.
func (r *Reader) Uint() uint64 {
	if !r.Good() {
		return 0
	}
	n, size := number(r.rest)
	if size == 0 {
		r.fail()
		return 0
	}
	r.rest = r.rest[size:]
	return n
}

// Int: a number that may be below 0.
func (r *Reader) Int() int {
	n := r.Uint()
	half := int(n >> 1)
	if n&1 == 1 {
		return -half - 1
	}
	return half
}

// In: a number that must be from one to another; 0, and a fault, if it isn't.
func (r *Reader) In(lo, hi int) int {
	n := r.Int()
	if r.Good() && (n < lo || n > hi) {
		r.fail()
		return 0
	}
	return n
}

// Take: so many bytes, as they are.
func (r *Reader) Take(n int) string {
	if !r.Good() {
		return ""
	}
	if n < 0 || n > len(r.rest) {
		r.fail()
		return ""
	}
	s := r.rest[:n]
	r.rest = r.rest[n:]
	return s
}

// Text: a text of so many bytes at most.
func (r *Reader) Text(most int) string {
	n := r.Uint()
	// Held against most as it was read: made an int first, a great one would be below 0.
	if r.Good() && (most < 0 || n > uint64(most)) {
		r.fail()
		return ""
	}
	return r.Take(int(n))
}

// Good: whether nothing was wrong so far.
func (r *Reader) Good() bool { return r != nil && !r.bad }

// End: whether nothing was wrong, and nothing is left.
func (r *Reader) End() bool { return r.Good() && r.rest == "" }

// fail is the fault behind which nothing is left.
func (r *Reader) fail() {
	r.rest = ""
	r.bad = true
}

// number answers the number that s begins with, and how many bytes it takes: none, if no number stands there.
func number(s string) (uint64, int) {
	n := uint64(0)
	for i := 0; i < len(s); i++ {
		if i > 0 && s[i] == 0 {
			return 0, 0
		}
		part := uint64(s[i] & low)
		shifted := part << (step * i)
		// What was shifted out at the top is above 2^64 - 1.
		if shifted>>(step*i) != part {
			return 0, 0
		}
		n |= shifted
		if s[i] < more {
			return n, i + 1
		}
	}
	return 0, 0
}
