// Package gauss is whole complex numbers: see DOC.md, chapter 1.
package gauss

import (
	"math"

	"demesne/api"
)

// Up to these bounds float64 loses nothing: a part just beyond wholeMost is not rounded to one within, sums of two parts up to wholeMost are exact, and so are sums of two products of parts up to smallMost.
const (
	wholeMost = 1 << 52
	smallMost = 1 << 24
)

// Of is the number of these parts: 1.1.
func Of(re, im int) (complex128, api.Errno) {
	z := complex(float64(re), float64(im))
	if !isWhole(z) {
		return 0, api.ErrRange
	}
	return z, api.OK
}

// Parts is what Of was given: 1.1.
func Parts(z complex128) (re, im int, e api.Errno) {
	if !isWhole(z) {
		return 0, 0, api.ErrForm
	}
	return int(real(z)), int(imag(z)), api.OK
}

// Turn is z times i, k modulo 4 times: 1.1.
func Turn(z complex128, k int) complex128 {
	if !isWhole(z) {
		return 0
	}
	for range (k%4 + 4) % 4 {
		z *= 1i
	}
	return withoutMinusZero(z)
}

// Add is the sum: 1.2.
func Add(a, b complex128) (complex128, api.Errno) {
	if !isWhole(a) || !isWhole(b) {
		return 0, api.ErrForm
	}
	sum := a + b
	if !isWhole(sum) {
		return 0, api.ErrRange
	}
	return withoutMinusZero(sum), api.OK
}

// Mul is the product: 1.2.
func Mul(a, b complex128) (complex128, api.Errno) {
	if e := refuse(a, b); e != api.OK {
		return 0, e
	}
	return withoutMinusZero(a * b), api.OK
}

// Norm is the parts' squares together: 1.2.
func Norm(z complex128) (int, api.Errno) {
	if e := refuse(z); e != api.OK {
		return 0, e
	}
	return norm(z), api.OK
}

// Less is an order of small numbers, by Norm first: 1.3.
func Less(a, b complex128) bool {
	if refuse(a, b) != api.OK {
		return false
	}
	if m, n := norm(a), norm(b); m != n {
		return m < n
	}
	if real(a) != real(b) {
		return real(a) < real(b)
	}
	return imag(a) < imag(b)
}

// Div is the quotient, rounded, and what is left of a: 1.4.
func Div(a, b complex128) (q, r complex128, e api.Errno) {
	if e := refuse(a, b); e != api.OK {
		return 0, 0, e
	}
	if b == 0 {
		return 0, 0, api.ErrArg
	}
	n := norm(b)
	p := a * conjugate(b)
	q = complex(nearest(real(p), n), nearest(imag(p), n))
	return q, withoutMinusZero(a - q*b), api.OK
}

// refuse is the order that all calls on small numbers share: every number's form goes before any number's range.
func refuse(l ...complex128) api.Errno {
	for _, z := range l {
		if !isWhole(z) {
			return api.ErrForm
		}
	}
	for _, z := range l {
		if !isSmall(z) {
			return api.ErrRange
		}
	}
	return api.OK
}

func isWhole(z complex128) bool {
	return isWholeUpTo(real(z), wholeMost) && isWholeUpTo(imag(z), wholeMost)
}

func isSmall(z complex128) bool {
	return isWholeUpTo(real(z), smallMost) && isWholeUpTo(imag(z), smallMost)
}

// isWholeUpTo needs no word on NaN and infinities: they are not at most anything finite.
func isWholeUpTo(x, most float64) bool {
	return math.Abs(x) <= most && math.Trunc(x) == x
}

func conjugate(z complex128) complex128 {
	return complex(real(z), -imag(z))
}

// norm is Norm of a small number.
func norm(z complex128) int {
	return int(real(z * conjugate(z)))
}

// nearest rounds p over n (n above 0) to the nearest whole number, of two to the greater one. It counts in ints, so that a middle is told from what lies close to it without a word on rounded quotients.
func nearest(p float64, n int) float64 {
	doubled := 2*int(p) + n
	q := doubled / (2 * n)
	if doubled%(2*n) < 0 {
		q--
	}
	return float64(q)
}

// withoutMinusZero gives each part that is -0 as 0.
func withoutMinusZero(z complex128) complex128 {
	return complex(plainZero(real(z)), plainZero(imag(z)))
}

func plainZero(x float64) float64 {
	if x == 0 {
		return 0
	}
	return x
}
