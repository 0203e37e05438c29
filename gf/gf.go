// Package gf is arithmetic in the field with 256 elements: bytes as
// polynomials over GF(2), modulo x^8 + x^4 + x^3 + x^2 + 1.
package gf

// order is the number of the elements other than 0; all of them are powers of 2.
const order = 255

// fold is what x^8 comes to: the modulus without its highest term.
const fold element = 0x1d

// element is a type of its own, so that the sums and products of plain bytes
// are not taken for those of the field.
type element byte

func (a element) plus(b element) element { return a ^ b }

func (a element) doubled() element {
	if a&0x80 != 0 {
		return a<<1 ^ fold
	}
	return a << 1
}

func (a element) times(b element) element {
	var product element
next:
	if b&1 != 0 {
		product = product.plus(a)
	}
	a = a.doubled()
	b >>= 1
	if b != 0 {
		goto next
	}
	return product
}

// remainder is never negative, unlike Go's own.
func remainder(n int) int {
	r := n % order
	if r < 0 {
		r += order
	}
	return r
}

// Add returns the sum, which is also the difference.
func Add(a, b byte) byte { return byte(element(a).plus(element(b))) }

// Mul returns the product.
func Mul(a, b byte) byte { return byte(element(a).times(element(b))) }

// Inv returns the element whose product with a is 1, and 0 for 0.
func Inv(a byte) byte { return Made().Inv(a) }

// Pow returns 2 to the power of n, for negative n too.
func Pow(n int) byte { return byte(Made().powers[remainder(n)]) }

// Log returns the n from 0 to 254 for which Pow(n) is a, and true; 0 and
// false for 0, which is no power.
func Log(a byte) (int, bool) {
	if a == 0 {
		return 0, false
	}
	return int(Made().logs[a]), true
}

// Eval returns the value at x of the polynomial with the coefficients p, the
// constant term first.
func Eval(p []byte, x byte) byte {
	var value element
	for i := len(p) - 1; i >= 0; i-- {
		value = value.times(element(x)).plus(element(p[i]))
	}
	return byte(value)
}

// Table holds the powers of 2 and their logarithms, for callers that compute
// many products.
type Table struct {
	powers [order]element
	logs   [order + 1]byte
}

// Made returns a new Table.
func Made() *Table {
	t := new(Table)
	power := element(1)
	for n := range order {
		t.powers[n] = power
		t.logs[power] = byte(n)
		power = power.doubled()
	}
	return t
}

// Mul returns the product, and 0 on a nil Table.
func (t *Table) Mul(a, b byte) byte {
	if t == nil || a == 0 || b == 0 {
		return 0
	}
	return byte(t.powers[remainder(int(t.logs[a])+int(t.logs[b]))])
}

// Inv returns the inverse, and 0 for 0 and on a nil Table.
func (t *Table) Inv(a byte) byte {
	if t == nil || a == 0 {
		return 0
	}
	return byte(t.powers[remainder(-int(t.logs[a]))])
}
