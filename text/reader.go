package text

import "docket/kind"

const maxDigits = 10 // of a number

// reader goes over a string from its beginning on. It goes over a byte only if some text goes on with it there,
// so where it stops for good is the place of the error.
type reader struct {
	s  string
	at int // the next byte
}

// take goes over the next byte if it is this one.
func (r *reader) take(b byte) bool {
	if r.at >= len(r.s) || r.s[r.at] != b {
		return false
	}
	r.at++
	return true
}

// digit tells the next byte's digit without going over it: not every digit may stand everywhere.
func (r *reader) digit() (int, bool) {
	if r.at >= len(r.s) {
		return 0, false
	}
	b := r.s[r.at]
	if b < '0' || b > '9' {
		return 0, false
	}
	return int(b - '0'), true
}

// number reads a blank and the number behind it.
// A digit behind a nought, or behind the last of ten, is left for whoever asks for what comes next: there none fits.
func (r *reader) number() (int, bool) {
	if !r.take(' ') {
		return 0, false
	}
	if r.take('0') {
		return 0, true
	}
	if r.take('-') {
		n, fits := r.digits()
		return -n, fits
	}
	return r.digits()
}

// digits reads a number that does not begin with a nought.
func (r *reader) digits() (int, bool) {
	digit, more := r.digit()
	if !more || digit == 0 {
		return 0, false
	}
	n := 0
	for count := 0; more && count < maxDigits; count++ {
		n = 10*n + digit
		r.at++
		digit, more = r.digit()
	}
	return n, true
}

// numbers reads numbers up to the end of the line: none or more.
func (r *reader) numbers() ([]int, bool) {
	var list []int
	for !r.take('\n') {
		n, fits := r.number()
		if !fits {
			return nil, false
		}
		list = append(list, n)
	}
	return list, true
}

// kind reads a blank and the number of a kind: a second digit fits only if there is such a kind.
func (r *reader) kind() (int, bool) {
	if !r.take(' ') {
		return 0, false
	}
	first, fits := r.digit()
	if !fits {
		return 0, false
	}
	r.at++
	second, more := r.digit()
	both := 10*first + second
	if more && first > 0 && kind.Known(both) {
		r.at++
		return both, true
	}
	return first, true
}
