package blob

import (
	"bytes"
	"hash/crc32"
	"math"
	"math/big"
	"slices"
	"testing"

	"deadeye/api"
	"deadeye/rs"
)

func same(a, b [][]byte) bool { return slices.EqualFunc(a, b, bytes.Equal) }

// sample returns n bytes that look irregular, the same ones for each seed. None
// of them is 0, so that none is taken for padding.
func sample(n int, seed uint32) []byte {
	data := make([]byte, n)
	for i := range data {
		seed = seed*1664525 + 1013904223
		data[i] = byte(seed>>24)%255 + 1
	}
	return data
}

// width counts the bytes up, k at a time.
func width(size, k int) int {
	w := 0
	for w*k < size {
		w++
	}
	return w
}

// shards puts each byte where it belongs by itself.
func shards(k int, data []byte) [][]byte {
	w := width(len(data), k)
	parts := make([][]byte, k)
	for i := range parts {
		parts[i] = make([]byte, w)
	}
	for i, x := range data {
		parts[i/w][i%w] = x
	}
	return parts
}

// fragments takes those of the code that rs makes of the shards.
func fragments(t *testing.T, k, m int, data []byte) [][]byte {
	t.Helper()
	parts, e := rs.Encode(m, shards(k, data))
	if e != api.OK {
		t.Fatalf("no fragments for k %d, m %d: error %d", k, m, e)
	}
	return parts
}

func at(parts [][]byte, positions ...int) []api.Frag {
	var list []api.Frag
	for _, pos := range positions {
		list = append(list, api.Frag{Pos: pos, Data: parts[pos]})
	}
	return list
}

// firstOf returns the fragments of the positions 0 to k - 1, which are the
// given shards.
func firstOf(parts [][]byte) []api.Frag {
	var list []api.Frag
	for pos, part := range parts {
		list = append(list, api.Frag{Pos: pos, Data: part})
	}
	return list
}

// choices calls use with each sequence of k different numbers below n.
func choices(n, k int, use func([]int)) {
	var extend func(chosen []int)
	extend = func(chosen []int) {
		if len(chosen) == k {
			use(chosen)
			return
		}
		for i := range n {
			if !slices.Contains(chosen, i) {
				extend(append(slices.Clone(chosen), i))
			}
		}
	}
	extend(nil)
}

// roomy returns a copy with spare capacity that is filled with 77.
func roomy(data []byte) []byte { return append(slices.Clone(data), 77, 77, 77)[:len(data)] }

func untouched(got, want []byte) bool {
	return bytes.Equal(got[:len(want)+3], append(slices.Clone(want), 77, 77, 77))
}

// apart writes all over the parts, with their capacity, and reports whether
// none of them was another's memory.
func apart(parts [][]byte) bool {
	for i, part := range parts {
		part = part[:cap(part)]
		for j := range part {
			part[j] = byte(i)
		}
	}
	for i, part := range parts {
		for _, x := range part[:cap(part)] {
			if x != byte(i) {
				return false
			}
		}
	}
	return true
}

// P6.1

func TestWidth(t *testing.T) {
	for size := range 600 {
		for k := 1; k < 300; k++ {
			if got, want := Width(size, k), width(size, k); got != want {
				t.Fatalf("Width(%d, %d) = %d, want %d", size, k, got, want)
			}
		}
	}
}

func TestWidthByHand(t *testing.T) {
	for _, c := range [][3]int{
		{0, 1, 0}, {0, 255, 0}, {1, 1, 1}, {1, 2, 1}, {1, 255, 1}, {2, 2, 1}, {3, 2, 2}, {4, 2, 2}, {5, 2, 3},
		{256, 1, 256}, {256, 3, 86}, {256, 255, 2}, {255, 255, 1}, {256, 256, 1}, {1000, 7, 143},
	} {
		if got := Width(c[0], c[1]); got != c[2] {
			t.Errorf("Width(%d, %d) = %d, want %d", c[0], c[1], got, c[2])
		}
	}
}

func TestWidthOfWrongArguments(t *testing.T) {
	for _, c := range [][2]int{
		{-1, 1}, {-1, 2}, {-100, 7}, {math.MinInt, 1}, {math.MinInt, math.MaxInt}, {-1, math.MaxInt},
		{0, 0}, {1, 0}, {5, 0}, {math.MaxInt, 0}, {5, -1}, {5, -5}, {0, -1}, {math.MaxInt, -1}, {math.MaxInt, math.MinInt},
		{-1, 0}, {-1, -1}, {-6, -2}, {math.MinInt, -1}, {math.MinInt, 0}, {math.MinInt, math.MinInt}, {5, math.MinInt},
	} {
		if got := Width(c[0], c[1]); got != 0 {
			t.Errorf("Width(%d, %d) = %d, want 0", c[0], c[1], got)
		}
	}
}

func TestWidthOfExtremeArguments(t *testing.T) {
	extreme := []int{1, 2, 3, 7, 255, math.MaxInt / 3, math.MaxInt / 2, math.MaxInt/2 + 1, math.MaxInt - 2, math.MaxInt - 1, math.MaxInt}
	for _, size := range append([]int{0}, extreme...) {
		for _, k := range extreme {
			n, d := big.NewInt(int64(size)), big.NewInt(int64(k))
			want := n.Add(n, d).Sub(n, big.NewInt(1)).Div(n, d).Int64()
			if got := Width(size, k); int64(got) != want {
				t.Errorf("Width(%d, %d) = %d, want %d", size, k, got, want)
			}
		}
	}
}

func TestEncodeByHand(t *testing.T) {
	for _, c := range []struct {
		k, m int
		data []byte
		want [][]byte
	}{
		{1, 0, []byte{9}, [][]byte{{9}}},
		{1, 2, []byte{9, 8}, [][]byte{{9, 8}, {9, 8}, {9, 8}}},
		{2, 1, []byte{1, 0, 0, 1}, [][]byte{{1, 0}, {0, 1}, {3, 2}}},
		{2, 1, []byte{1, 0, 0}, [][]byte{{1, 0}, {0, 0}, {3, 0}}},
		{2, 1, []byte{1}, [][]byte{{1}, {0}, {3}}},
		{2, 0, []byte{5, 6, 7}, [][]byte{{5, 6}, {7, 0}}},
		{3, 1, []byte{5, 6, 7, 8}, [][]byte{{5, 6}, {7, 8}, {0, 0}, {2, 14}}},
		{4, 0, []byte{5}, [][]byte{{5}, {0}, {0}, {0}}},
		{4, 0, []byte{5, 6, 7, 8, 9}, [][]byte{{5, 6}, {7, 8}, {9, 0}, {0, 0}}},
		{5, 0, []byte{1, 2, 3, 4, 5, 6}, [][]byte{{1, 2}, {3, 4}, {5, 6}, {0, 0}, {0, 0}}},
		{1, 1, nil, [][]byte{{}, {}}},
		{3, 2, []byte{}, [][]byte{{}, {}, {}, {}, {}}},
	} {
		if got, e := Encode(c.k, c.m, c.data); e != api.OK || !same(got, c.want) {
			t.Errorf("Encode(%d, %d, %v) = %v, %d, want %v", c.k, c.m, c.data, got, e, c.want)
		}
	}
}

func TestEncode(t *testing.T) {
	for _, k := range []int{1, 2, 3, 4, 5, 7, 16} {
		for _, m := range []int{0, 1, 3} {
			for size := range api.MaxBlob + 1 {
				data := sample(size, uint32(size))
				if got, e := Encode(k, m, data); e != api.OK || !same(got, fragments(t, k, m, data)) {
					t.Fatalf("Encode(%d, %d) of %d bytes: wrong, error %d", k, m, size, e)
				}
			}
		}
	}
}

func TestEncodeLargeCodes(t *testing.T) {
	for _, c := range [][2]int{{1, 254}, {16, 239}, {128, 127}, {254, 1}, {255, 0}} {
		for _, size := range []int{0, 1, 256} {
			data := sample(size, 3)
			if got, e := Encode(c[0], c[1], data); e != api.OK || !same(got, fragments(t, c[0], c[1], data)) {
				t.Errorf("Encode(%d, %d) of %d bytes: wrong, error %d", c[0], c[1], size, e)
			}
		}
	}
}

func TestEncodeErrors(t *testing.T) {
	for _, c := range []struct {
		k, m, size int
		want       api.Errno
	}{
		{3, 2, 257, api.ErrLarge}, {1, 0, 257, api.ErrLarge}, {255, 0, 257, api.ErrLarge}, {3, 2, 100000, api.ErrLarge},
		// Too large comes first, whatever k and m are.
		{0, 0, 257, api.ErrLarge}, {-1, 1, 257, api.ErrLarge}, {256, 0, 257, api.ErrLarge}, {math.MaxInt, 0, 257, api.ErrLarge},
		{math.MinInt, 0, 257, api.ErrLarge}, {1, -1, 257, api.ErrLarge}, {1, 255, 257, api.ErrLarge},
		{0, 0, 0, api.ErrRange}, {0, 1, 256, api.ErrRange}, {0, 255, 5, api.ErrRange}, {-1, 0, 1, api.ErrRange}, {-1, 5, 256, api.ErrRange},
		{256, 0, 0, api.ErrRange}, {256, 0, 256, api.ErrRange}, {256, -1, 3, api.ErrRange}, {257, -2, 0, api.ErrRange},
		{math.MaxInt, 0, 0, api.ErrRange}, {math.MaxInt, 1, 9, api.ErrRange}, {math.MaxInt, math.MinInt, 9, api.ErrRange},
		{math.MinInt, 0, 0, api.ErrRange}, {math.MinInt, math.MaxInt, 9, api.ErrRange},
		// These k are possible, but the code is not.
		{1, -1, 0, api.ErrRange}, {3, -1, 256, api.ErrRange}, {1, 255, 0, api.ErrRange}, {255, 1, 256, api.ErrRange}, {128, 128, 7, api.ErrRange},
		{1, math.MaxInt, 1, api.ErrRange}, {255, math.MaxInt, 1, api.ErrRange}, {1, math.MinInt, 1, api.ErrRange}, {255, math.MinInt, 0, api.ErrRange},
	} {
		if got, e := Encode(c.k, c.m, make([]byte, c.size)); e != c.want || len(got) != 0 {
			t.Errorf("Encode(%d, %d) of %d bytes = %d fragments, %d, want %d", c.k, c.m, c.size, len(got), e, c.want)
		}
	}
}

func TestEncodeMemory(t *testing.T) {
	for _, c := range []struct{ k, m, size int }{{1, 0, 7}, {1, 1, 7}, {3, 0, 9}, {3, 2, 7}, {3, 2, 1}, {5, 1, 6}, {255, 0, 256}} {
		original := sample(c.size, 1)
		data := roomy(original)
		got, e := Encode(c.k, c.m, data)
		if e != api.OK || !untouched(data, original) {
			t.Errorf("Encode(%d, %d) of %d bytes changed its argument, or error %d", c.k, c.m, c.size, e)
		}
		again, _ := Encode(c.k, c.m, data)
		if !apart(append(slices.Clone(got), again...)) || !untouched(data, original) {
			t.Errorf("fragments of Encode(%d, %d) of %d bytes share memory", c.k, c.m, c.size)
		}
	}
	// What stands behind data is not taken for padding.
	if got, e := Encode(2, 0, roomy([]byte{1, 2, 3})); e != api.OK || !same(got, [][]byte{{1, 2}, {3, 0}}) {
		t.Errorf("Encode of a slice with more behind it = %v, %d", got, e)
	}
}

// P6.2

func TestDecodeByHand(t *testing.T) {
	for _, c := range []struct {
		k, m int
		list []api.Frag
		want string
	}{
		{1, 0, []api.Frag{{Pos: 0, Data: []byte("a")}}, "a"},
		{1, 2, []api.Frag{{Pos: 2, Data: []byte("ab")}}, "ab"},
		{2, 0, []api.Frag{{Pos: 1, Data: []byte("c\x00")}, {Pos: 0, Data: []byte("ab")}}, "abc"},
		{2, 1, []api.Frag{{Pos: 2, Data: []byte{3, 2}}, {Pos: 0, Data: []byte{1, 0}}}, "\x01\x00\x00\x01"},
		{2, 1, []api.Frag{{Pos: 2, Data: []byte{3, 0}}, {Pos: 0, Data: []byte{1, 0}}}, "\x01\x00\x00"},
		{4, 0, []api.Frag{{Pos: 3, Data: []byte{0, 0}}, {Pos: 1, Data: []byte("cd")}, {Pos: 2, Data: []byte{'e', 0}}, {Pos: 0, Data: []byte("ab")}}, "abcde"},
		{2, 1, []api.Frag{{Pos: 2}, {Pos: 0, Data: []byte{}}}, ""},
	} {
		got, e := Decode(c.k, c.m, len(c.want), crc32.ChecksumIEEE([]byte(c.want)), c.list)
		if e != api.OK || string(got) != c.want {
			t.Errorf("Decode(%d, %d, %v) = %q, %d, want %q", c.k, c.m, c.list, got, e, c.want)
		}
	}
}

func TestDecodeAnyFragments(t *testing.T) {
	for _, c := range [][2]int{{1, 0}, {1, 3}, {2, 0}, {2, 1}, {2, 3}, {3, 2}, {4, 2}, {5, 0}} {
		k, m := c[0], c[1]
		for _, size := range []int{0, 1, 2, 3, 4, 5, 6, 7, 16, 255, 256} {
			data := sample(size, uint32(size))
			parts := fragments(t, k, m, data)
			choices(k+m, k, func(chosen []int) {
				got, e := Decode(k, m, size, crc32.ChecksumIEEE(data), at(parts, chosen...))
				if e != api.OK || !bytes.Equal(got, data) {
					t.Errorf("Decode(%d, %d) of %v of %d bytes: wrong, error %d", k, m, chosen, size, e)
				}
			})
		}
	}
}

// Each size comes back from what Encode returned.
func TestDecodeOfEncode(t *testing.T) {
	for _, c := range [][2]int{{1, 1}, {2, 1}, {3, 2}, {6, 3}, {11, 5}} {
		k, m := c[0], c[1]
		for size := range api.MaxBlob + 1 {
			data := sample(size, uint32(k))
			parts, e := Encode(k, m, data)
			if e != api.OK {
				t.Fatalf("Encode(%d, %d) of %d bytes: error %d", k, m, size, e)
			}
			var last []int
			for pos := k + m - 1; pos >= m; pos-- {
				last = append(last, pos)
			}
			got, e := Decode(k, m, size, crc32.ChecksumIEEE(data), at(parts, last...))
			if e != api.OK || !bytes.Equal(got, data) {
				t.Fatalf("Decode(%d, %d) of %d bytes: wrong, error %d", k, m, size, e)
			}
		}
	}
}

func TestDecodeLargeCodes(t *testing.T) {
	for _, c := range [][2]int{{1, 254}, {16, 239}, {128, 127}, {254, 1}, {255, 0}} {
		for _, size := range []int{0, 1, 256} {
			k, m := c[0], c[1]
			data := sample(size, 9)
			var last []int
			for pos := m; pos < k+m; pos++ {
				last = append(last, pos)
			}
			got, e := Decode(k, m, size, crc32.ChecksumIEEE(data), at(fragments(t, k, m, data), last...))
			if e != api.OK || !bytes.Equal(got, data) {
				t.Errorf("Decode(%d, %d) of %d bytes: wrong, error %d", k, m, size, e)
			}
		}
	}
}

// The first fragments of k different positions count, not those behind them.
func TestDecodeTakesFirstFragments(t *testing.T) {
	data := []byte("deadeye")
	check := crc32.ChecksumIEEE(data)
	parts := fragments(t, 2, 2, data)
	junk := func(pos int) api.Frag { return api.Frag{Pos: pos, Data: []byte{9, 9, 9, 9}} }
	good := func(pos int) api.Frag { return api.Frag{Pos: pos, Data: parts[pos]} }
	for i, list := range [][]api.Frag{
		{good(0), good(1), junk(2), junk(3)},
		{good(3), junk(3), good(2), junk(0), junk(1)},
		{good(1), good(1), good(3), junk(1)},
	} {
		if got, e := Decode(2, 2, 7, check, list); e != api.OK || !bytes.Equal(got, data) {
			t.Errorf("list %d: Decode = %q, %d", i, got, e)
		}
	}
	for i, list := range [][]api.Frag{
		{junk(0), good(0), good(1), good(2)},
		{good(0), junk(1), good(1), good(2)},
		{junk(3), good(0), good(1), good(2)},
	} {
		if got, e := Decode(2, 2, 7, check, list); e != api.ErrForm || len(got) != 0 {
			t.Errorf("list %d with a wrong fragment first: Decode = %q, %d", i, got, e)
		}
	}
}

// Only the first size bytes have a checksum.
func TestDecodeIgnoresPadding(t *testing.T) {
	for _, list := range [][]api.Frag{
		firstOf([][]byte{{1, 2}, {3, 99}, {98, 97}}),
		firstOf([][]byte{{1, 2}, {3, 0}, {0, 1}}),
	} {
		// Width(4, 3) is 2, as these shards have.
		want := []byte{1, 2, 3, list[1].Data[1]}
		if got, e := Decode(3, 0, 4, crc32.ChecksumIEEE(want), list); e != api.OK || !bytes.Equal(got, want) {
			t.Errorf("Decode of %v = %v, %d, want %v", list, got, e, want)
		}
	}
}

func TestDecodeErrLarge(t *testing.T) {
	for _, size := range []int{-1, -2, 257, 300, 1 << 32, 1<<32 + 1, math.MinInt, math.MaxInt} {
		// Too large comes first, whatever the rest is.
		for _, c := range [][2]int{{1, 0}, {2, 1}, {0, 0}, {-1, 0}, {256, 0}, {1, -1}, {math.MaxInt, math.MaxInt}} {
			for _, list := range [][]api.Frag{nil, {{Pos: 0}}, {{Pos: -1}}, {{Pos: 0, Data: make([]byte, 257)}}, {{Pos: 0}, {Pos: 0, Data: []byte{1}}}} {
				if got, e := Decode(c[0], c[1], size, 0, list); e != api.ErrLarge || len(got) != 0 {
					t.Errorf("Decode(%d, %d, %d) = %v, %d, want %d", c[0], c[1], size, got, e, api.ErrLarge)
				}
			}
		}
	}
}

func TestDecodeErrorsOfTheCode(t *testing.T) {
	one, two := []byte{1}, []byte{1, 2}
	for _, c := range []struct {
		k, m int
		list []api.Frag
		want api.Errno
	}{
		{0, 0, nil, api.ErrRange}, {0, 5, []api.Frag{{Pos: 0}}, api.ErrRange}, {-1, 2, []api.Frag{{Pos: -1}}, api.ErrRange},
		{1, -1, []api.Frag{{Pos: 0}}, api.ErrRange}, {1, 255, []api.Frag{{Pos: 0}}, api.ErrRange}, {256, 0, nil, api.ErrRange},
		{math.MaxInt, 1, nil, api.ErrRange}, {1, math.MaxInt, nil, api.ErrRange}, {math.MinInt, math.MinInt, nil, api.ErrRange},
		{2, 1, []api.Frag{{Pos: 3}, {Pos: 0}}, api.ErrForm}, {2, 1, []api.Frag{{Pos: -1}}, api.ErrForm},
		{2, 1, []api.Frag{{Pos: 0, Data: one}, {Pos: 1, Data: one}, {Pos: math.MaxInt, Data: one}}, api.ErrForm},
		{2, 1, []api.Frag{{Pos: 0, Data: one}, {Pos: 1, Data: two}}, api.ErrForm},
		{2, 1, []api.Frag{{Pos: 0, Data: one}, {Pos: 1, Data: one}, {Pos: 1, Data: two}}, api.ErrForm},
		{1, 0, nil, api.ErrFew}, {2, 1, []api.Frag{}, api.ErrFew}, {2, 1, []api.Frag{{Pos: 2, Data: one}}, api.ErrFew},
		// Too few comes ahead of fragments that do not have Width bytes.
		{2, 1, []api.Frag{{Pos: 2, Data: two}, {Pos: 2, Data: two}}, api.ErrFew}, {255, 0, []api.Frag{{Pos: 254}}, api.ErrFew},
	} {
		for _, size := range []int{0, 1, 2, 256} {
			if got, e := Decode(c.k, c.m, size, 0, c.list); e != c.want || len(got) != 0 {
				t.Errorf("Decode(%d, %d, %d, 0, %v) = %v, %d, want %d", c.k, c.m, size, c.list, got, e, c.want)
			}
		}
	}
}

// The checksum is that of the wanted bytes here, so that only the width of the
// fragments is wrong.
func TestDecodeWrongWidth(t *testing.T) {
	for _, k := range []int{1, 2, 3, 5} {
		for size := range 20 {
			for w := range 24 {
				list := firstOf(slices.Repeat([][]byte{make([]byte, w)}, k))
				want, form := make([]byte, size), w != width(size, k)
				got, e := Decode(k, 1, size, crc32.ChecksumIEEE(want), list)
				if form && (e != api.ErrForm || len(got) != 0) {
					t.Errorf("Decode of %d bytes from %d shards of %d = %v, %d", size, k, w, got, e)
				}
				if !form && (e != api.OK || !bytes.Equal(got, want)) {
					t.Errorf("Decode of %d zero bytes from %d shards of %d = %v, %d", size, k, w, got, e)
				}
			}
		}
	}
	for _, w := range []int{0, 255, 257, 1000} {
		if got, e := Decode(1, 0, 256, crc32.ChecksumIEEE(make([]byte, 256)), []api.Frag{{Data: make([]byte, w)}}); e != api.ErrForm || len(got) != 0 {
			t.Errorf("Decode of 256 bytes from a shard of %d = %v, %d", w, got, e)
		}
	}
}

func TestDecodeWrongSum(t *testing.T) {
	for _, size := range []int{0, 1, 2, 5, 256} {
		data := sample(size, 4)
		list := at(fragments(t, 2, 2, data), 3, 1)
		check := crc32.ChecksumIEEE(data)
		for bit := range 32 {
			if got, e := Decode(2, 2, size, check^1<<bit, list); e != api.ErrForm || len(got) != 0 {
				t.Errorf("Decode of %d bytes with bit %d of the sum wrong = %v, %d", size, bit, got, e)
			}
		}
		for _, other := range []uint32{^check, check + 1, check - 1} {
			if got, e := Decode(2, 2, size, other, list); e != api.ErrForm || len(got) != 0 {
				t.Errorf("Decode of %d bytes with the sum %x = %v, %d", size, other, got, e)
			}
		}
	}
}

// One wrong bit of a fragment is found, and another size of the same width too.
func TestDecodeWrongBytes(t *testing.T) {
	data := sample(11, 8)
	check := crc32.ChecksumIEEE(data)
	for pos := range 3 {
		for bit := range 8 {
			parts := fragments(t, 2, 1, data)
			parts[pos][3] ^= 1 << bit
			if got, e := Decode(2, 1, 11, check, at(parts, pos, (pos+1)%3)); e != api.ErrForm || len(got) != 0 {
				t.Errorf("Decode with a wrong bit %d of fragment %d = %v, %d", bit, pos, got, e)
			}
		}
	}
	list := at(fragments(t, 2, 1, data), 0, 1)
	if got, e := Decode(2, 1, 12, check, list); e != api.ErrForm || len(got) != 0 {
		t.Errorf("Decode of a byte more = %v, %d", got, e)
	}
	// A fragment under another position's number is another blob's.
	list[0].Pos, list[1].Pos = 1, 0
	if got, e := Decode(2, 1, 11, check, list); e != api.ErrForm || len(got) != 0 {
		t.Errorf("Decode of exchanged fragments = %v, %d", got, e)
	}
}

func TestDecodeMemory(t *testing.T) {
	for _, c := range []struct{ k, m, size int }{{1, 0, 5}, {1, 1, 5}, {3, 2, 7}, {3, 2, 9}, {5, 0, 6}} {
		data := sample(c.size, 2)
		check := crc32.ChecksumIEEE(data)
		original := fragments(t, c.k, c.m, data)
		list := make([]api.Frag, 0, c.k+c.m+1)
		for pos := c.k + c.m - 1; pos >= 0; pos-- {
			list = append(list, api.Frag{Pos: pos, Data: roomy(original[pos])})
		}
		whole := append(list, api.Frag{Pos: 77})
		got, e := Decode(c.k, c.m, c.size, check, list)
		again, _ := Decode(c.k, c.m, c.size, check, list)
		if e != api.OK || !bytes.Equal(got, data) || !apart([][]byte{got, again}) {
			t.Errorf("results of Decode(%d, %d) share memory, or error %d", c.k, c.m, e)
		}
		Decode(c.k, c.m, c.size, check+1, list)
		for i, f := range list {
			if pos := c.k + c.m - 1 - i; f.Pos != pos || !untouched(f.Data, original[pos]) {
				t.Errorf("Decode(%d, %d) changed fragment %d of the list: %v", c.k, c.m, i, f)
			}
		}
		if last := whole[len(list)]; last.Pos != 77 || last.Data != nil {
			t.Errorf("Decode(%d, %d) changed the list's capacity", c.k, c.m)
		}
	}
}
