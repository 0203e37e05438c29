package sum

import (
	"bytes"
	"hash/crc32"
	"math"
	"strings"
	"testing"
)

// sample returns n bytes that look irregular, the same ones for each seed.
func sample(n int, seed uint32) []byte {
	b := make([]byte, n)
	for i := range b {
		seed = seed*1664525 + 1013904223
		b[i] = byte(seed >> 24)
	}
	return b
}

// sums are checksums of some strings; each uint32 is one.
func sums() []uint32 {
	return []uint32{0, 1, 0x80000000, 0xffffffff, 0xedb88320, 0xcbf43926, 0xe8b7be43, 12345}
}

// moved returns a sum behind further bits, each one a division step.
func moved(rest uint32, bits int) uint32 {
	for range bits {
		carry := rest & 1
		rest = rest>>1 ^ carry*0xedb88320
	}
	return rest
}

// P4.1

func TestOfKnown(t *testing.T) {
	for _, c := range []struct {
		text string
		want uint32
	}{
		{"", 0}, {"a", 0xe8b7be43}, {"abc", 0x352441c2}, {"123456789", 0xcbf43926},
		{"\x00", 0xd202ef8d}, {"\x00\x00", 0x41d912ff}, {"\xff", 0xff000000}, {"\xff\xff\xff\xff", 0xffffffff},
		{strings.Repeat("\x00", 32), 0x190a55ad}, {strings.Repeat("\xff", 32), 0xff6cab0b},
		{"The quick brown fox jumps over the lazy dog", 0x414fa339},
	} {
		if got := Of([]byte(c.text)); got != c.want {
			t.Errorf("Of(%q) = %08x, want %08x", c.text, got, c.want)
		}
	}
	if got := Of(nil); got != 0 {
		t.Errorf("Of(nil) = %08x, want 0", got)
	}
}

func TestOfShortStrings(t *testing.T) {
	for i := range 1 << 16 {
		for _, b := range [][]byte{{byte(i)}, {byte(i), byte(i >> 8)}, {7, byte(i), 0, byte(i >> 8)}} {
			if got, want := Of(b), crc32.ChecksumIEEE(b); got != want {
				t.Fatalf("Of(%v) = %08x, want %08x", b, got, want)
			}
		}
	}
}

func TestOfAllLengths(t *testing.T) {
	b := sample(1100, 3)
	for n := range len(b) {
		if got, want := Of(b[:n]), crc32.ChecksumIEEE(b[:n]); got != want {
			t.Errorf("Of of %d bytes = %08x, want %08x", n, got, want)
		}
	}
}

func TestOfLong(t *testing.T) {
	b := sample(1<<20+1, 9)
	if got, want := Of(b), crc32.ChecksumIEEE(b); got != want {
		t.Errorf("Of of %d bytes = %08x, want %08x", len(b), got, want)
	}
}

func TestOfLeavesArgument(t *testing.T) {
	whole := sample(20, 1)
	Of(whole[:10])
	if !bytes.Equal(whole, sample(20, 1)) {
		t.Errorf("Of changed its argument or the capacity behind it: %v", whole)
	}
}

func TestOfKeepsNothing(t *testing.T) {
	b := []byte("123456789")
	Of(b)
	b[0] = 'x'
	if got, want := Of(b), crc32.ChecksumIEEE(b); got != want {
		t.Errorf("Of after a change = %08x, want %08x", got, want)
	}
	if got := Of([]byte("123456789")); got != 0xcbf43926 {
		t.Errorf("Of after other calls = %08x", got)
	}
}

func TestJoinAtEachCut(t *testing.T) {
	for _, n := range []int{0, 1, 2, 9, 64, 300, 1025} {
		b := sample(n, uint32(n))
		want := crc32.ChecksumIEEE(b)
		for cut := range n + 1 {
			first, second := crc32.ChecksumIEEE(b[:cut]), crc32.ChecksumIEEE(b[cut:])
			if got := Join(first, second, n-cut); got != want {
				t.Errorf("Join of %d and %d bytes = %08x, want %08x", cut, n-cut, got, want)
			}
		}
	}
}

func TestJoinLong(t *testing.T) {
	b := sample(1<<20+77, 5)
	want := crc32.ChecksumIEEE(b)
	for _, cut := range []int{0, 1, 77, 1 << 19, 1<<20 - 1, 1 << 20, len(b) - 1, len(b)} {
		first, second := crc32.ChecksumIEEE(b[:cut]), crc32.ChecksumIEEE(b[cut:])
		if got := Join(first, second, len(b)-cut); got != want {
			t.Errorf("Join of %d and %d bytes = %08x, want %08x", cut, len(b)-cut, got, want)
		}
	}
}

func TestJoinOfAnyFirstSum(t *testing.T) {
	second := []byte("789")
	for _, a := range sums() {
		if got, want := Join(a, crc32.ChecksumIEEE(second), 3), crc32.Update(a, crc32.IEEETable, second); got != want {
			t.Errorf("Join(%08x) = %08x, want %08x", a, got, want)
		}
	}
}

func TestJoinOfNoBytes(t *testing.T) {
	for _, a := range sums() {
		for _, n := range []int{0, -1, -3, -8, math.MinInt32, math.MinInt + 1, math.MinInt} {
			if got := Join(a, 0, n); got != a {
				t.Errorf("Join(%08x, 0, %d) = %08x", a, n, got)
			}
		}
	}
}

// The powers of x repeat after 2^32 - 1, since the polynomial is primitive. 8
// times 2^31 - 1, or 2^63 - 1, is 4 less than a multiple of that, so 4 bits
// more lead back to the first sum.
func TestJoinExtreme(t *testing.T) {
	for _, a := range sums() {
		for _, b := range sums() {
			for _, n := range []int{math.MaxInt32, math.MaxInt} {
				if got := moved(Join(a, b, n)^b, 4); got != a {
					t.Errorf("Join(%08x, %08x, %d): 4 bits behind it is %08x", a, b, n, got)
				}
				if got := moved(Join(a, b, n-1)^b, 12); got != a {
					t.Errorf("Join(%08x, %08x, %d): 12 bits behind it is %08x", a, b, n-1, got)
				}
			}
		}
	}
}

func TestJoinOfThree(t *testing.T) {
	for _, n := range []int{0, 1, 1000, math.MaxInt32 / 3, math.MaxInt / 2} {
		for _, m := range []int{0, 5, 65536, math.MaxInt32 / 2, math.MaxInt / 3} {
			left := Join(Join(0xe8b7be43, 0x352441c2, n), 0xcbf43926, m)
			right := Join(0xe8b7be43, Join(0x352441c2, 0xcbf43926, m), n+m)
			if left != right {
				t.Errorf("behind %d and %d bytes: %08x from the left, %08x from the right", n, m, left, right)
			}
		}
	}
}

func FuzzJoin(f *testing.F) {
	f.Add([]byte("12345678"), []byte("9"))
	f.Add([]byte{}, []byte{0, 0})
	f.Fuzz(func(t *testing.T, first, second []byte) {
		whole := append(bytes.Clone(first), second...)
		want := crc32.ChecksumIEEE(whole)
		if got := Of(whole); got != want {
			t.Errorf("Of(%q) = %08x, want %08x", whole, got, want)
		}
		if got := Join(Of(first), Of(second), len(second)); got != want {
			t.Errorf("Join of %q and %q = %08x, want %08x", first, second, got, want)
		}
	})
}
