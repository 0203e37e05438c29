package gf

import (
	"bytes"
	"math"
	"testing"
)

// product multiplies in full first and reduces by the whole modulus after
// that, so it shares no step with the package.
func product(a, b byte) byte {
	full := 0
	for i := range 8 {
		if b>>i&1 != 0 {
			full ^= int(a) << i
		}
	}
	for i := 14; i >= 8; i-- {
		if full>>i&1 != 0 {
			full ^= 0x11d << (i - 8)
		}
	}
	return byte(full)
}

// power multiplies n factors x.
func power(x byte, n int) byte {
	p := byte(1)
	for range n {
		p = product(p, x)
	}
	return p
}

func eachPair(f func(a, b byte)) {
	for a := range 256 {
		for b := range 256 {
			f(byte(a), byte(b))
		}
	}
}

// P1.1

func TestAddOfAllPairs(t *testing.T) {
	eachPair(func(a, b byte) {
		if got := Add(a, b); got != a^b {
			t.Errorf("Add(%d, %d) = %d, want %d", a, b, got, a^b)
		}
	})
}

func TestMulKnown(t *testing.T) {
	for _, c := range []struct{ a, b, want byte }{
		{0, 0, 0}, {0, 255, 0}, {255, 0, 0}, {1, 77, 77}, {77, 1, 77},
		{2, 64, 128}, {2, 128, 29}, {128, 2, 29}, {3, 7, 9}, {142, 2, 1}, {255, 255, 226},
	} {
		if got := Mul(c.a, c.b); got != c.want {
			t.Errorf("Mul(%d, %d) = %d, want %d", c.a, c.b, got, c.want)
		}
	}
}

func TestMulOfAllPairs(t *testing.T) {
	eachPair(func(a, b byte) {
		if got, want := Mul(a, b), product(a, b); got != want {
			t.Errorf("Mul(%d, %d) = %d, want %d", a, b, got, want)
		}
	})
}

func TestInvOfAllBytes(t *testing.T) {
	if got := Inv(0); got != 0 {
		t.Errorf("Inv(0) = %d, want 0", got)
	}
	for a := 1; a < 256; a++ {
		if got := product(byte(a), Inv(byte(a))); got != 1 {
			t.Errorf("%d times Inv(%d) = %d, want 1", a, a, got)
		}
	}
}

func TestPowNear0(t *testing.T) {
	want := byte(1)
	for n := range 1024 {
		// 1275 is five times 255, so each n also stands below 0.
		for _, m := range []int{n, n - 1275} {
			if got := Pow(m); got != want {
				t.Errorf("Pow(%d) = %d, want %d", m, got, want)
			}
		}
		want = product(want, 2)
	}
}

func TestPowKnown(t *testing.T) {
	for _, c := range []struct {
		n    int
		want byte
	}{{0, 1}, {1, 2}, {7, 128}, {8, 29}, {254, 142}, {255, 1}, {-1, 142}, {-254, 2}, {-255, 1}, {-256, 142}} {
		if got := Pow(c.n); got != c.want {
			t.Errorf("Pow(%d) = %d, want %d", c.n, got, c.want)
		}
	}
}

func TestPowExtreme(t *testing.T) {
	// 2^8 is 1 modulo 255, so 2^63, like 2^31, is 2^7 = 128, and -2^63 is 127.
	for _, c := range []struct{ n, rest int }{
		{math.MaxInt, 127}, {math.MaxInt - 1, 126}, {math.MinInt, 127}, {math.MinInt + 1, 128},
		{math.MaxInt32, 127}, {math.MinInt32, 127},
	} {
		if got, want := Pow(c.n), power(2, c.rest); got != want {
			t.Errorf("Pow(%d) = %d, want %d", c.n, got, want)
		}
	}
}

func TestLogOfAllBytes(t *testing.T) {
	if n, ok := Log(0); n != 0 || ok {
		t.Errorf("Log(0) = %d, %v, want 0, false", n, ok)
	}
	for want := range 255 {
		a := power(2, want)
		if n, ok := Log(a); n != want || !ok {
			t.Errorf("Log(%d) = %d, %v, want %d, true", a, n, ok, want)
		}
	}
}

func TestEvalKnown(t *testing.T) {
	for _, c := range []struct {
		p    []byte
		x    byte
		want byte
	}{
		{nil, 0, 0}, {nil, 9, 0}, {[]byte{}, 255, 0},
		{[]byte{7}, 0, 7}, {[]byte{7}, 200, 7},
		{[]byte{7, 8, 9}, 0, 7}, {[]byte{7, 8, 9}, 1, 7 ^ 8 ^ 9},
		{[]byte{5, 0, 1}, 3, 0}, {[]byte{0, 1}, 77, 77}, {[]byte{0, 0, 1}, 16, 29},
		{[]byte{1, 2, 0, 0}, 2, 5},
	} {
		if got := Eval(c.p, c.x); got != c.want {
			t.Errorf("Eval(%v, %d) = %d, want %d", c.p, c.x, got, c.want)
		}
	}
}

// sample returns n bytes that look irregular, the same ones each time.
func sample(n int) []byte {
	b := make([]byte, n)
	for i := range b {
		b[i] = byte(i*i*7 + i*131 + 5)
	}
	return b
}

func TestEvalAtAllBytes(t *testing.T) {
	for _, n := range []int{1, 2, 3, 10, 255, 256, 600} {
		p := sample(n)
		for x := range 256 {
			var want byte
			factor := byte(1)
			for _, c := range p {
				want ^= product(c, factor)
				factor = product(factor, byte(x))
			}
			if got := Eval(p, byte(x)); got != want {
				t.Errorf("Eval of %d coefficients at %d = %d, want %d", n, x, got, want)
			}
		}
	}
}

func TestEvalLeavesArgument(t *testing.T) {
	whole := sample(20)
	Eval(whole[:10], 3)
	if !bytes.Equal(whole, sample(20)) {
		t.Errorf("Eval changed its argument or the capacity behind it: %v", whole)
	}
}

// P1.2

func TestTableMulOfAllPairs(t *testing.T) {
	table := Made()
	eachPair(func(a, b byte) {
		if got, want := table.Mul(a, b), product(a, b); got != want {
			t.Errorf("Mul(%d, %d) = %d, want %d", a, b, got, want)
		}
	})
}

func TestTableInvOfAllBytes(t *testing.T) {
	table := Made()
	if got := table.Inv(0); got != 0 {
		t.Errorf("Inv(0) = %d, want 0", got)
	}
	for a := 1; a < 256; a++ {
		if got := product(byte(a), table.Inv(byte(a))); got != 1 {
			t.Errorf("%d times Inv(%d) = %d, want 1", a, a, got)
		}
	}
}

func TestNilTable(t *testing.T) {
	var table *Table
	eachPair(func(a, b byte) {
		if got := table.Mul(a, b); got != 0 {
			t.Errorf("Mul(%d, %d) on nil = %d, want 0", a, b, got)
		}
	})
	for a := range 256 {
		if got := table.Inv(byte(a)); got != 0 {
			t.Errorf("Inv(%d) on nil = %d, want 0", a, got)
		}
	}
}

// A Table that Made did not return has no promised results, but by R1 its
// methods must still end without a panic.
func TestZeroTableDoesNotPanic(t *testing.T) {
	table := new(Table)
	eachPair(func(a, b byte) { table.Mul(a, b) })
	for a := range 256 {
		table.Inv(byte(a))
	}
}

func TestMadeIsNew(t *testing.T) {
	a, b := Made(), Made()
	if a == nil || b == nil || a == b {
		t.Fatalf("Made returned %p and %p, want two tables", a, b)
	}
	*a = Table{}
	if got := b.Mul(2, 128); got != 29 {
		t.Errorf("a table shares memory with another: Mul(2, 128) = %d", got)
	}
	if got := Made().Inv(2); got != 142 {
		t.Errorf("a later table shares memory with an earlier one: Inv(2) = %d", got)
	}
}
