package mat

import (
	"bytes"
	"math"
	"slices"
	"testing"

	"deadeye/gf"
)

func same(a, b [][]byte) bool { return slices.EqualFunc(a, b, bytes.Equal) }

// product takes each element as a sum by itself, where the package adds rows.
func product(a, b [][]byte) [][]byte {
	table := gf.Made()
	var m [][]byte
	for i := range a {
		var row []byte
		for j := range b[0] {
			var sum byte
			for k := range b {
				sum ^= table.Mul(a[i][k], b[k][j])
			}
			row = append(row, sum)
		}
		m = append(m, row)
	}
	return m
}

func isIdentity(m [][]byte, n int) bool {
	if len(m) != n {
		return false
	}
	for i, row := range m {
		if len(row) != n {
			return false
		}
		for j, x := range row {
			if i == j && x != 1 || i != j && x != 0 {
				return false
			}
		}
	}
	return true
}

// sample returns a matrix that looks irregular, the same one for each seed.
func sample(rows, cols int, seed uint32) [][]byte {
	m := make([][]byte, rows)
	for i := range m {
		m[i] = make([]byte, cols)
		for j := range m[i] {
			seed = seed*1664525 + 1013904223
			m[i][j] = byte(seed >> 24)
		}
	}
	return m
}

// regular returns a matrix that has an inverse for sure: the product of a
// lower and an upper triangle without a 0 on their diagonals.
func regular(n int, seed uint32) [][]byte {
	lower, upper := sample(n, n, seed), sample(n, n, seed+1)
	for i := range n {
		lower[i][i] |= 1
		upper[i][i] |= 1
		clear(lower[i][i+1:])
		clear(upper[i][:i])
	}
	return product(lower, upper)
}

// spacious returns m with spare capacity behind each row and behind the rows,
// filled with 77, and a check that neither m nor the capacity has changed.
func spacious(m [][]byte) ([][]byte, func() bool) {
	roomy := make([][]byte, 0, len(m)+2)
	for _, row := range m {
		roomy = append(roomy, append(slices.Clone(row), 77, 77, 77)[:len(row)])
	}
	spare := []byte{77}
	whole := append(roomy, spare, spare)
	return roomy, func() bool {
		for i, row := range m {
			if !bytes.Equal(whole[i], row) || !bytes.Equal(whole[i][len(row):len(row)+3], []byte{77, 77, 77}) {
				return false
			}
		}
		return same(whole[len(m):], [][]byte{{77}, {77}})
	}
}

// ownMemory reports whether each row of m, with its capacity, is apart from
// all others, from those of the other matrices, and whether so are the rows
// themselves: it writes all over m.
func ownMemory(m [][]byte, others ...[][]byte) bool {
	var before [][][]byte
	for _, o := range others {
		before = append(before, product(o, identity(len(o[0]))))
	}
	for i, row := range m {
		row = row[:cap(row)]
		for j := range row {
			row[j] = byte(i)
		}
	}
	for i, row := range m {
		for _, x := range row[:cap(row)] {
			if x != byte(i) {
				return false
			}
		}
	}
	clear(m[:cap(m)])
	for i, o := range others {
		if !same(o, before[i]) {
			return false
		}
	}
	return true
}

// unsound are the matrices that are not Sound.
func unsound() [][][]byte {
	return [][][]byte{
		nil, {}, {nil}, {{}}, {{}, {}}, {nil, nil, nil}, {{}, {1}}, {{1}, {}}, {{1}, nil},
		{{1}, {1, 2}}, {{1, 2}, {1}}, {{1, 2}, {3, 4}, {5}}, {{1, 2}, {3, 4, 5}, {6, 7}},
	}
}

// P2.1

func TestSound(t *testing.T) {
	for _, m := range unsound() {
		if Sound(m) {
			t.Errorf("Sound(%v) = true", m)
		}
	}
	shared := []byte{1, 2}
	for _, m := range [][][]byte{
		{{0}}, {{1}}, {{1, 2, 3}}, {{1}, {2}, {3}}, {{0, 0}, {0, 0}}, {shared, shared},
		sample(300, 1, 1), sample(1, 300, 2), sample(257, 258, 3),
	} {
		if !Sound(m) {
			t.Errorf("Sound of %d rows of %d = false", len(m), len(m[0]))
		}
	}
}

func TestSoundIgnoresCapacity(t *testing.T) {
	row := make([]byte, 1, 8)
	if !Sound([][]byte{row, {1}}) || Sound([][]byte{row, {1, 2}}) || Sound([][]byte{row[:0]}) {
		t.Error("Sound looked at the capacity of a row")
	}
}

func TestMulKnown(t *testing.T) {
	for _, c := range []struct{ a, b, want [][]byte }{
		{[][]byte{{2}}, [][]byte{{128}}, [][]byte{{29}}},
		{[][]byte{{0}}, [][]byte{{9}}, [][]byte{{0}}},
		{[][]byte{{1, 2}}, [][]byte{{3, 1}, {1, 0}}, [][]byte{{1, 1}}},
		{[][]byte{{1}, {2}}, [][]byte{{3, 128}}, [][]byte{{3, 128}, {6, 29}}},
		{[][]byte{{0, 1}, {1, 0}}, [][]byte{{1, 2, 3}, {4, 5, 6}}, [][]byte{{4, 5, 6}, {1, 2, 3}}},
		{[][]byte{{1, 2, 3}, {4, 5, 6}}, [][]byte{{0, 1, 0}, {0, 0, 1}, {1, 0, 0}}, [][]byte{{3, 1, 2}, {6, 4, 5}}},
	} {
		if got, ok := Mul(c.a, c.b); !ok || !same(got, c.want) {
			t.Errorf("Mul(%v, %v) = %v, %v, want %v", c.a, c.b, got, ok, c.want)
		}
	}
}

func TestMulOfAllBytes(t *testing.T) {
	column, row := make([][]byte, 256), make([]byte, 256)
	for i := range 256 {
		column[i], row[i] = []byte{byte(i)}, byte(i)
	}
	got, ok := Mul(column, [][]byte{row})
	if !ok || !same(got, product(column, [][]byte{row})) {
		t.Error("the product of a column and a row with all bytes is wrong")
	}
}

func TestMulOfSizes(t *testing.T) {
	for _, c := range []struct{ rows, inner, cols int }{
		{1, 1, 1}, {1, 5, 1}, {5, 1, 5}, {2, 3, 4}, {4, 3, 2}, {7, 7, 7}, {1, 300, 2}, {300, 2, 1}, {2, 1, 300}, {40, 260, 30},
	} {
		a, b := sample(c.rows, c.inner, 1), sample(c.inner, c.cols, 2)
		if got, ok := Mul(a, b); !ok || !same(got, product(a, b)) {
			t.Errorf("the product of %v is wrong (%v)", c, ok)
		}
	}
}

func TestMulRefuses(t *testing.T) {
	one := [][]byte{{1}}
	for _, m := range unsound() {
		for _, c := range [][2][][]byte{{m, one}, {one, m}, {m, m}} {
			if got, ok := Mul(c[0], c[1]); ok || len(got) != 0 {
				t.Errorf("Mul(%v, %v) = %v, %v, want none", c[0], c[1], got, ok)
			}
		}
	}
	// These fit but for the rows that are too short or too long.
	wide := [][]byte{{1, 2}}
	for _, b := range [][][]byte{{{1, 2}, {3}}, {{1}, {2, 3}}, {{}, {}}, {{}, {1}}} {
		if got, ok := Mul(wide, b); ok || len(got) != 0 {
			t.Errorf("Mul(%v, %v) = %v, %v, want none", wide, b, got, ok)
		}
	}
	for _, c := range []struct{ rowsA, colsA, rowsB, colsB int }{
		{1, 2, 1, 1}, {1, 1, 2, 1}, {2, 3, 2, 3}, {3, 2, 3, 2}, {2, 3, 4, 2}, {1, 3, 2, 3},
	} {
		if got, ok := Mul(sample(c.rowsA, c.colsA, 1), sample(c.rowsB, c.colsB, 2)); ok || len(got) != 0 {
			t.Errorf("Mul of %v = %v, %v, want none", c, got, ok)
		}
	}
}

func TestMulMemory(t *testing.T) {
	for _, n := range []int{1, 3, 16} {
		a, unchangedA := spacious(sample(n, n, 1))
		b, unchangedB := spacious(sample(n, n, 2))
		m, _ := Mul(a, b)
		again, _ := Mul(a, b)
		if !unchangedA() || !unchangedB() {
			t.Errorf("Mul changed an argument of %d rows", n)
		}
		if !ownMemory(m, a, b, again) {
			t.Errorf("a product of %d rows shares memory", n)
		}
		if square, ok := Mul(a, a); !ok || !same(square, product(a, a)) || !unchangedA() {
			t.Errorf("Mul of a matrix of %d rows with itself is wrong", n)
		}
	}
	row := []byte{3, 5}
	if m, ok := Mul(One(2), [][]byte{row, row}); !ok || !same(m, [][]byte{{3, 5}, {3, 5}}) || !ownMemory(m, [][]byte{row}) {
		t.Error("the product with a matrix of one row twice is wrong or shares memory")
	}
}

func TestOne(t *testing.T) {
	for n := 1; n <= 256; n++ {
		if m := One(n); !isIdentity(m, n) {
			t.Errorf("One(%d) is not the identity matrix", n)
		}
	}
	for _, n := range []int{0, -1, 257, 258, 512, math.MaxInt32, math.MinInt32, math.MaxInt, math.MinInt} {
		if m := One(n); m != nil {
			t.Fatalf("One(%d) has %d rows, want nil", n, len(m))
		}
	}
}

func TestOneMemory(t *testing.T) {
	if !ownMemory(One(5), One(5)) || !isIdentity(One(5), 5) {
		t.Error("One shares memory")
	}
}

func TestVanderKnown(t *testing.T) {
	for _, c := range []struct {
		rows, cols int
		want       [][]byte
	}{
		{1, 1, [][]byte{{1}}},
		{1, 4, [][]byte{{1, 0, 0, 0}}},
		{3, 1, [][]byte{{1}, {1}, {1}}},
		{4, 3, [][]byte{{1, 0, 0}, {1, 1, 1}, {1, 2, 4}, {1, 3, 5}}},
		{3, 9, [][]byte{{1, 0, 0, 0, 0, 0, 0, 0, 0}, {1, 1, 1, 1, 1, 1, 1, 1, 1}, {1, 2, 4, 8, 16, 32, 64, 128, 29}}},
	} {
		if got := Vander(c.rows, c.cols); !same(got, c.want) {
			t.Errorf("Vander(%d, %d) = %v, want %v", c.rows, c.cols, got, c.want)
		}
	}
}

func TestVanderOfSizes(t *testing.T) {
	for _, c := range [][2]int{{256, 256}, {256, 1}, {1, 256}, {2, 256}, {256, 2}, {255, 255}, {17, 40}, {40, 17}} {
		rows, cols := c[0], c[1]
		m := Vander(rows, cols)
		if len(m) != rows {
			t.Errorf("Vander(%d, %d) has %d rows", rows, cols, len(m))
			continue
		}
		for i, row := range m {
			var want []byte
			power := byte(1)
			for range cols {
				want = append(want, power)
				power = gf.Mul(power, byte(i))
			}
			if !bytes.Equal(row, want) {
				t.Errorf("row %d of Vander(%d, %d) = %v, want %v", i, rows, cols, row, want)
			}
		}
	}
}

func TestVanderRefuses(t *testing.T) {
	bad := []int{0, -1, 257, 512, math.MaxInt32, math.MinInt32, math.MaxInt, math.MinInt}
	for _, n := range bad {
		// It ends at the first fault: the greatest sizes would not fit the memory.
		for _, other := range append([]int{1, 2, 256}, bad...) {
			if m := Vander(n, other); m != nil {
				t.Fatalf("Vander(%d, %d) has %d rows, want nil", n, other, len(m))
			}
			if m := Vander(other, n); m != nil {
				t.Fatalf("Vander(%d, %d) has %d rows, want nil", other, n, len(m))
			}
		}
	}
}

func TestVanderMemory(t *testing.T) {
	if !ownMemory(Vander(6, 4), Vander(6, 4)) || !same(Vander(2, 2), [][]byte{{1, 0}, {1, 1}}) {
		t.Error("Vander shares memory")
	}
}

// P2.2

func checkInverse(t *testing.T, name string, m [][]byte) {
	t.Helper()
	x, ok := Inverse(m)
	if !ok || !Sound(x) || len(x) != len(m) || len(x[0]) != len(m) {
		t.Errorf("%s: no inverse of %d rows (%v)", name, len(m), ok)
		return
	}
	if !isIdentity(product(x, m), len(m)) || !isIdentity(product(m, x), len(m)) {
		t.Errorf("%s: the product of %v and %v is not the identity matrix", name, m, x)
	}
}

func checkNoInverse(t *testing.T, m [][]byte) {
	t.Helper()
	if x, ok := Inverse(m); ok || len(x) != 0 {
		t.Errorf("Inverse(%v) = %v, %v, want none", m, x, ok)
	}
}

func TestInverseKnown(t *testing.T) {
	for _, c := range []struct{ m, want [][]byte }{
		{[][]byte{{1}}, [][]byte{{1}}},
		{[][]byte{{2}}, [][]byte{{142}}},
		{[][]byte{{0, 1}, {1, 0}}, [][]byte{{0, 1}, {1, 0}}},
		{[][]byte{{1, 0}, {1, 1}}, [][]byte{{1, 0}, {1, 1}}},
		{[][]byte{{2, 0}, {0, 4}}, [][]byte{{142, 0}, {0, 71}}},
		{[][]byte{{1, 7}, {0, 1}}, [][]byte{{1, 7}, {0, 1}}},
		{[][]byte{{0, 1, 0}, {0, 0, 1}, {1, 0, 0}}, [][]byte{{0, 0, 1}, {1, 0, 0}, {0, 1, 0}}},
		{[][]byte{{0, 2, 0}, {0, 0, 1}, {1, 0, 0}}, [][]byte{{0, 0, 1}, {142, 0, 0}, {0, 1, 0}}},
	} {
		if got, ok := Inverse(c.m); !ok || !same(got, c.want) {
			t.Errorf("Inverse(%v) = %v, %v, want %v", c.m, got, ok, c.want)
		}
	}
}

func TestInverseOfOneElement(t *testing.T) {
	checkNoInverse(t, [][]byte{{0}})
	for a := 1; a < 256; a++ {
		if x, ok := Inverse([][]byte{{byte(a)}}); !ok || !same(x, [][]byte{{gf.Inv(byte(a))}}) {
			t.Errorf("Inverse of %d = %v, %v", a, x, ok)
		}
	}
}

// filled returns the n x n matrix whose elements are chosen from values by the
// digits of number.
func filled(n, number int, values []byte) [][]byte {
	m := zeros(n, n)
	for i := range m {
		for j := range m[i] {
			m[i][j] = values[number%len(values)]
			number /= len(values)
		}
	}
	return m
}

func determinant2(a, b, c, d byte) byte { return gf.Mul(a, d) ^ gf.Mul(b, c) }

func determinant3(m [][]byte) byte {
	return gf.Mul(m[0][0], determinant2(m[1][1], m[1][2], m[2][1], m[2][2])) ^
		gf.Mul(m[0][1], determinant2(m[1][0], m[1][2], m[2][0], m[2][2])) ^
		gf.Mul(m[0][2], determinant2(m[1][0], m[1][1], m[2][0], m[2][1]))
}

// The determinant tells which matrices have an inverse.
func TestInverseOfManySmall(t *testing.T) {
	values := []byte{0, 1, 2, 3, 4, 29, 128, 142, 254, 255}
	for number := range 10 * 10 * 10 * 10 {
		m := filled(2, number, values)
		if determinant2(m[0][0], m[0][1], m[1][0], m[1][1]) == 0 {
			checkNoInverse(t, m)
		} else {
			checkInverse(t, "two rows", m)
		}
	}
	for number := range 3 * 3 * 3 * 3 * 3 * 3 * 3 * 3 * 3 {
		m := filled(3, number, []byte{0, 1, 2})
		if determinant3(m) == 0 {
			checkNoInverse(t, m)
		} else {
			checkInverse(t, "three rows", m)
		}
	}
}

func TestInverseOfSizes(t *testing.T) {
	for _, n := range []int{1, 2, 3, 4, 5, 8, 16, 33, 64, 100} {
		checkInverse(t, "identity", identity(n))
		checkInverse(t, "regular", regular(n, uint32(n)))
		checkInverse(t, "Vander", Vander(n, n))
		back := regular(n, uint32(n+1))
		x, _ := Inverse(back)
		if again, ok := Inverse(x); !ok || !same(again, back) {
			t.Errorf("the inverse of the inverse of %d rows is another matrix", n)
		}
	}
}

// Neither the 256 rows of Vander and One nor the 256 elements of the field
// bound what Inverse takes.
func TestInverseOfLarge(t *testing.T) {
	checkInverse(t, "Vander", Vander(256, 256))
	for _, n := range []int{257, 300} {
		m := regular(n, 9)
		checkInverse(t, "regular", m)
		copy(m[n-1], m[0])
		if x, ok := Inverse(m); ok || len(x) != 0 {
			t.Errorf("%d rows, the last like the first, have an inverse", n)
		}
	}
}

// In these the row with an element in the wanted column stands last, or first
// among those that are used already.
func TestInverseOfPermutations(t *testing.T) {
	const n = 6
	for shift := range n {
		turned, mirrored := zeros(n, n), zeros(n, n)
		for i := range n {
			turned[i][(i+shift)%n] = byte(i + 1)
			mirrored[i][(2*n-1-i-shift)%n] = byte(2*i + 3)
		}
		checkInverse(t, "turned", turned)
		checkInverse(t, "mirrored", mirrored)
	}
}

func TestInverseRefusesUnsound(t *testing.T) {
	for _, m := range unsound() {
		checkNoInverse(t, m)
	}
	checkNoInverse(t, [][]byte{{1, 0}, {0}})
	checkNoInverse(t, [][]byte{{1, 0}, {0, 1, 0}})
	checkNoInverse(t, [][]byte{{1, 0, 0}, {0, 1, 0}, nil})
}

func TestInverseRefusesOblong(t *testing.T) {
	for _, c := range [][2]int{{1, 2}, {2, 1}, {2, 3}, {3, 2}, {1, 300}, {300, 1}, {7, 8}, {8, 7}} {
		checkNoInverse(t, sample(c[0], c[1], 5))
		// These have the identity matrix as far as they are square.
		m := zeros(c[0], c[1])
		for i := range min(c[0], c[1]) {
			m[i][i] = 1
		}
		checkNoInverse(t, m)
	}
}

func TestInverseRefusesSingular(t *testing.T) {
	row := []byte{1, 2}
	for _, m := range [][][]byte{
		{{0, 0}, {0, 0}}, {{1, 2}, {2, 4}}, {{0, 0}, {1, 2}}, {{1, 2}, {0, 0}}, {{0, 1}, {0, 2}}, {{1, 0}, {2, 0}},
		{row, row}, {{1, 1}, {1, 1}}, {{255, 255}, {255, 255}}, {{1, 2, 3}, {4, 5, 6}, {5, 7, 5}},
		{{1, 0, 0}, {0, 1, 0}, {0, 0, 0}}, {{0, 0, 0}, {0, 1, 0}, {0, 0, 1}}, {{1, 0, 0}, {0, 0, 0}, {0, 0, 1}},
	} {
		checkNoInverse(t, m)
	}
	for n := 2; n < 20; n++ {
		m := regular(n, uint32(n))
		for i := range n {
			// Row i becomes a sum of multiples of the others.
			s := product(m, identity(n))
			clear(s[i])
			for j := range n {
				for k := range n {
					if j != i {
						s[i][k] ^= gf.Mul(byte(3*j+1), s[j][k])
					}
				}
			}
			checkNoInverse(t, s)
		}
	}
}

func TestInverseMemory(t *testing.T) {
	for _, n := range []int{1, 3, 16} {
		m, unchanged := spacious(regular(n, 3))
		x, _ := Inverse(m)
		again, _ := Inverse(m)
		if !unchanged() {
			t.Errorf("Inverse changed an argument of %d rows", n)
		}
		if !ownMemory(x, m, again) {
			t.Errorf("an inverse of %d rows shares memory", n)
		}
	}
	m, unchanged := spacious([][]byte{{0, 3, 1}, {2, 1, 1}, {2, 2, 0}})
	if Inverse(m); !unchanged() {
		t.Error("Inverse changed an argument without an inverse")
	}
	row := []byte{1, 2}
	if Inverse([][]byte{row, row}); !bytes.Equal(row, []byte{1, 2}) {
		t.Error("Inverse changed a row that stands twice in its argument")
	}
}
