package rs

import (
	"bytes"
	"math"
	"slices"
	"testing"

	"deadeye/api"
	"deadeye/gf"
)

func same(a, b [][]byte) bool { return slices.EqualFunc(a, b, bytes.Equal) }

// factor is the element of the code matrix by interpolation: the value at i of
// the polynomial that is 1 at j and 0 at the other numbers below k. The
// package gets at it by matrices.
func factor(table *gf.Table, i, j, k int) byte {
	value := byte(1)
	for l := range k {
		if l != j {
			value = table.Mul(value, table.Mul(byte(i^l), table.Inv(byte(j^l))))
		}
	}
	return value
}

// encoded returns the fragments, each byte as a sum by itself.
func encoded(m int, shards [][]byte) [][]byte {
	table := gf.Made()
	k := len(shards)
	fragments := make([][]byte, k+m)
	for i := range fragments {
		fragments[i] = make([]byte, len(shards[0]))
		for j, shard := range shards {
			f := factor(table, i, j, k)
			for at, x := range shard {
				fragments[i][at] ^= table.Mul(f, x)
			}
		}
	}
	return fragments
}

// sample returns shards that look irregular, the same ones for each seed.
func sample(k, width int, seed uint32) [][]byte {
	shards := make([][]byte, k)
	for i := range shards {
		shards[i] = make([]byte, width)
		for j := range shards[i] {
			seed = seed*1664525 + 1013904223
			shards[i][j] = byte(seed >> 24)
		}
	}
	return shards
}

func at(fragments [][]byte, positions ...int) []api.Frag {
	var list []api.Frag
	for _, pos := range positions {
		list = append(list, api.Frag{Pos: pos, Data: fragments[pos]})
	}
	return list
}

// choices calls use with each sequence of k different numbers below n.
func choices(n, k int, use func([]int)) {
	var extend func(chosen []int)
	extend = func(chosen []int) {
		if len(chosen) == k {
			use(chosen)
			return
		}
		for i := range n {
			if !slices.Contains(chosen, i) {
				extend(append(slices.Clone(chosen), i))
			}
		}
	}
	extend(nil)
}

// wrongCodes are k and m that are no code.
func wrongCodes() [][2]int {
	return [][2]int{
		{0, 0}, {0, 1}, {0, 255}, {-1, 0}, {-1, 3}, {-1, 256}, {1, -1}, {3, -1}, {300, -45},
		{1, 255}, {255, 1}, {256, 0}, {128, 128}, {200, 56}, {1, 256},
		{math.MaxInt, 0}, {math.MaxInt, 1}, {math.MaxInt, math.MaxInt}, {1, math.MaxInt}, {255, math.MaxInt},
		{math.MinInt, 0}, {math.MinInt, math.MinInt}, {math.MinInt, math.MaxInt}, {1, math.MinInt},
		{math.MaxInt, math.MinInt}, {255, math.MinInt}, {-5, math.MaxInt},
	}
}

// roomy returns a copy with spare capacity that is filled with 77.
func roomy(data []byte) []byte { return append(slices.Clone(data), 77, 77, 77)[:len(data)] }

func untouched(got, want []byte) bool {
	return bytes.Equal(got[:len(want)+3], append(slices.Clone(want), 77, 77, 77))
}

// apart writes all over the parts, with their capacity, and reports whether
// none of them was another's memory.
func apart(parts [][]byte) bool {
	for i, part := range parts {
		part = part[:cap(part)]
		for j := range part {
			part[j] = byte(i)
		}
	}
	for i, part := range parts {
		for _, x := range part[:cap(part)] {
			if x != byte(i) {
				return false
			}
		}
	}
	return true
}

// P3.1

func TestCodeByHand(t *testing.T) {
	for _, c := range []struct {
		k, m int
		want [][]byte
	}{
		{1, 0, [][]byte{{1}}},
		{1, 3, [][]byte{{1}, {1}, {1}, {1}}},
		{2, 0, [][]byte{{1, 0}, {0, 1}}},
		{2, 2, [][]byte{{1, 0}, {0, 1}, {3, 2}, {2, 3}}},
		{3, 1, [][]byte{{1, 0, 0}, {0, 1, 0}, {0, 0, 1}, {1, 1, 1}}},
		{3, 2, [][]byte{{1, 0, 0}, {0, 1, 0}, {0, 0, 1}, {1, 1, 1}, {15, 8, 6}}},
	} {
		if got, e := Code(c.k, c.m); e != api.OK || !same(got, c.want) {
			t.Errorf("Code(%d, %d) = %v, %d, want %v", c.k, c.m, got, e, c.want)
		}
	}
}

func TestCodeInterpolates(t *testing.T) {
	table := gf.Made()
	for _, c := range [][2]int{{1, 0}, {1, 254}, {2, 1}, {2, 253}, {4, 2}, {7, 9}, {16, 0}, {16, 16}, {60, 195}, {128, 127}, {254, 0}, {254, 1}, {255, 0}} {
		k, m := c[0], c[1]
		code, e := Code(k, m)
		if e != api.OK || len(code) != k+m {
			t.Fatalf("Code(%d, %d): %d rows, error %d", k, m, len(code), e)
		}
		for i, row := range code {
			if len(row) != k {
				t.Fatalf("Code(%d, %d): row %d has %d elements", k, m, i, len(row))
			}
			// The elements of a large matrix take long to interpolate.
			step := max(1, k/16)
			for j := i % step; j < k; j += step {
				if want := factor(table, i, j, k); row[j] != want {
					t.Fatalf("Code(%d, %d)[%d][%d] = %d, want %d", k, m, i, j, row[j], want)
				}
			}
			if i < k && (row[i] != 1 || bytes.Count(row, []byte{0}) != k-1) {
				t.Fatalf("Code(%d, %d): row %d is %v", k, m, i, row)
			}
		}
		if !apart(code) {
			t.Errorf("Code(%d, %d): rows share memory", k, m)
		}
	}
}

func TestCodeErrors(t *testing.T) {
	for _, c := range wrongCodes() {
		if code, e := Code(c[0], c[1]); e != api.ErrRange || len(code) != 0 {
			t.Errorf("Code(%d, %d) = %d rows, %d", c[0], c[1], len(code), e)
		}
	}
}

func TestEncodeByHand(t *testing.T) {
	for _, c := range []struct {
		m            int
		shards, want [][]byte
	}{
		{0, [][]byte{{9}}, [][]byte{{9}}},
		{2, [][]byte{{9, 8}}, [][]byte{{9, 8}, {9, 8}, {9, 8}}},
		{1, [][]byte{{1, 0, 128, 255}, {0, 1, 128, 255}}, [][]byte{{1, 0, 128, 255}, {0, 1, 128, 255}, {3, 2, 128, 255}}},
		{2, [][]byte{{1, 0, 0, 1}, {0, 1, 0, 1}, {0, 0, 1, 1}}, [][]byte{{1, 0, 0, 1}, {0, 1, 0, 1}, {0, 0, 1, 1}, {1, 1, 1, 1}, {15, 8, 6, 1}}},
		{1, [][]byte{{}}, [][]byte{{}, {}}},
		{3, [][]byte{nil, {}}, [][]byte{{}, {}, {}, {}, {}}},
		{0, [][]byte{nil, nil, nil}, [][]byte{{}, {}, {}}},
	} {
		if got, e := Encode(c.m, c.shards); e != api.OK || !same(got, c.want) {
			t.Errorf("Encode(%d, %v) = %v, %d, want %v", c.m, c.shards, got, e, c.want)
		}
	}
}

func TestEncode(t *testing.T) {
	for _, c := range []struct{ k, m, width int }{
		{1, 0, 1}, {1, 4, 300}, {2, 1, 3}, {3, 2, 17}, {5, 11, 52}, {10, 6, 256}, {40, 20, 2}, {1, 254, 1}, {100, 155, 1}, {255, 0, 1},
	} {
		shards := sample(c.k, c.width, uint32(c.k))
		got, e := Encode(c.m, shards)
		if e != api.OK || !same(got[:c.k], shards) || !same(got, encoded(c.m, shards)) {
			t.Errorf("Encode(%d) of %d shards of %d: wrong, error %d", c.m, c.k, c.width, e)
		}
	}
}

func TestEncodeErrors(t *testing.T) {
	many := slices.Repeat([][]byte{{1}}, 300)
	uneven := append(slices.Repeat([][]byte{{1}}, 299), nil)
	for _, c := range []struct {
		m      int
		shards [][]byte
		want   api.Errno
	}{
		{0, nil, api.ErrRange}, {1, nil, api.ErrRange}, {255, [][]byte{}, api.ErrRange}, {-1, nil, api.ErrRange},
		{-1, many[:1], api.ErrRange}, {255, many[:1], api.ErrRange}, {1, many[:255], api.ErrRange},
		{0, many[:256], api.ErrRange}, {0, many, api.ErrRange}, {-45, many, api.ErrRange}, {56, many[:200], api.ErrRange},
		{math.MaxInt, many[:1], api.ErrRange}, {math.MinInt, many[:1], api.ErrRange}, {math.MaxInt, nil, api.ErrRange},
		{0, uneven, api.ErrRange}, {-1, [][]byte{{1}, {}}, api.ErrRange}, {254, [][]byte{{1}, {}}, api.ErrRange},
		{1, [][]byte{{1}, {}}, api.ErrForm}, {1, [][]byte{nil, {1}}, api.ErrForm}, {0, [][]byte{{1}, {1, 2}}, api.ErrForm},
		{3, [][]byte{{1, 2}, {1, 2}, {1}}, api.ErrForm}, {3, [][]byte{{}, {}, {1}}, api.ErrForm},
		{3, [][]byte{{1, 2}, {1}, {1, 2}}, api.ErrForm}, {253, [][]byte{{1}, {}}, api.ErrForm},
	} {
		if got, e := Encode(c.m, c.shards); e != c.want || len(got) != 0 {
			t.Errorf("Encode(%d) of %d shards = %d fragments, %d, want %d", c.m, len(c.shards), len(got), e, c.want)
		}
	}
}

func TestEncodeMemory(t *testing.T) {
	original := sample(3, 5, 1)
	shards := make([][]byte, 0, 5)
	for _, shard := range original {
		shards = append(shards, roomy(shard))
	}
	whole := append(shards, []byte{77}, []byte{77})
	got, e := Encode(2, shards)
	if e != api.OK || !apart(got) {
		t.Errorf("fragments share memory, error %d", e)
	}
	clear(got[:cap(got)])
	for i, shard := range original {
		if !untouched(whole[i], shard) {
			t.Errorf("shard %d was changed: %v", i, whole[i])
		}
	}
	if !same(whole[3:], [][]byte{{77}, {77}}) {
		t.Error("the shards' capacity was changed")
	}
	// Fragments of shards that are one memory are still apart.
	if got, _ := Encode(1, [][]byte{original[0], original[0]}); !apart(got) {
		t.Error("fragments of equal shards share memory")
	}
}

// P3.2

func TestDecodeAnyFragments(t *testing.T) {
	for _, c := range []struct{ k, m, width int }{{1, 0, 4}, {1, 3, 4}, {2, 0, 1}, {2, 1, 3}, {2, 3, 9}, {3, 3, 5}, {4, 2, 2}, {5, 0, 1}} {
		shards := sample(c.k, c.width, 7)
		fragments := encoded(c.m, shards)
		choices(c.k+c.m, c.k, func(chosen []int) {
			list := at(fragments, chosen...)
			if got, e := Decode(c.k, c.m, list); e != api.OK || !same(got, shards) {
				t.Errorf("Decode(%d, %d) of %v = %v, %d", c.k, c.m, chosen, got, e)
			}
			for pos, want := range fragments {
				if got, e := Rebuild(c.k, c.m, pos, list); e != api.OK || !bytes.Equal(got, want) {
					t.Errorf("Rebuild(%d, %d, %d) of %v = %v, %d, want %v", c.k, c.m, pos, chosen, got, e, want)
				}
			}
		})
	}
}

func TestDecodeLargeCodes(t *testing.T) {
	for _, c := range [][2]int{{1, 254}, {16, 16}, {100, 100}, {128, 127}, {254, 1}, {255, 0}} {
		k, m := c[0], c[1]
		shards := sample(k, 2, uint32(k))
		fragments, e := Encode(m, shards)
		if e != api.OK {
			t.Fatalf("Encode(%d) of %d shards: error %d", m, k, e)
		}
		var last []int
		for pos := k + m - 1; pos >= m; pos-- {
			last = append(last, pos)
		}
		list := at(fragments, last...)
		if got, e := Decode(k, m, list); e != api.OK || !same(got, shards) {
			t.Errorf("Decode(%d, %d) of the last fragments: wrong, error %d", k, m, e)
		}
		for _, pos := range []int{0, k - 1, k + m - 1} {
			if got, e := Rebuild(k, m, pos, list); e != api.OK || !bytes.Equal(got, fragments[pos]) {
				t.Errorf("Rebuild(%d, %d, %d) = %v, %d, want %v", k, m, pos, got, e, fragments[pos])
			}
		}
	}
}

func TestDecodeTakesFirstFragments(t *testing.T) {
	shards := [][]byte{{10, 20}, {30, 40}}
	fragments := encoded(2, shards)
	junk := func(pos int) api.Frag { return api.Frag{Pos: pos, Data: []byte{99, 98}} }
	good := func(pos int) api.Frag { return api.Frag{Pos: pos, Data: fragments[pos]} }
	for i, list := range [][]api.Frag{
		{good(0), good(1), junk(2), junk(3)},
		{good(3), good(2), junk(1), junk(0)},
		{good(2), junk(2), good(0), junk(1)},
		{good(3), junk(3), junk(3), good(1), junk(1), junk(3)},
		{good(1), good(1), good(1), good(2), junk(1)},
		{good(2), good(3), junk(2), junk(3), junk(0)},
	} {
		if got, e := Decode(2, 2, list); e != api.OK || !same(got, shards) {
			t.Errorf("list %d: Decode = %v, %d, want %v", i, got, e, shards)
		}
		for pos, want := range fragments {
			if got, e := Rebuild(2, 2, pos, list); e != api.OK || !bytes.Equal(got, want) {
				t.Errorf("list %d: Rebuild of %d = %v, %d, want %v", i, pos, got, e, want)
			}
		}
	}
	// What comes first is used, even where what follows would be right.
	if got, e := Decode(2, 2, []api.Frag{junk(0), good(0), good(1)}); e != api.OK || !same(got, [][]byte{{99, 98}, {30, 40}}) {
		t.Errorf("Decode of a first fragment that is wrong = %v, %d", got, e)
	}
	if got, e := Decode(1, 2, []api.Frag{junk(2), good(0)}); e != api.OK || !same(got, [][]byte{{99, 98}}) {
		t.Errorf("Decode of a first position that is wrong = %v, %d", got, e)
	}
}

func TestDecodeEmptyFragments(t *testing.T) {
	list := []api.Frag{{Pos: 2}, {Pos: 2, Data: []byte{}}, {Pos: 0, Data: []byte{}}}
	if got, e := Decode(2, 1, list); e != api.OK || !same(got, [][]byte{{}, {}}) {
		t.Errorf("Decode = %v, %d", got, e)
	}
	for pos := range 3 {
		if got, e := Rebuild(2, 1, pos, list); e != api.OK || len(got) != 0 {
			t.Errorf("Rebuild of %d = %v, %d", pos, got, e)
		}
	}
}

// decodeFaults are lists that Decode refuses.
func decodeFaults() []struct {
	k, m int
	list []api.Frag
	want api.Errno
} {
	one, two := []byte{1}, []byte{1, 2}
	return []struct {
		k, m int
		list []api.Frag
		want api.Errno
	}{
		{2, 1, []api.Frag{{Pos: 3}}, api.ErrForm},
		{2, 1, []api.Frag{{Pos: -1}}, api.ErrForm},
		{2, 1, []api.Frag{{Pos: math.MinInt}, {Pos: 1}}, api.ErrForm},
		{2, 1, []api.Frag{{Pos: 0}, {Pos: math.MaxInt}}, api.ErrForm},
		{2, 1, []api.Frag{{Pos: 0, Data: one}, {Pos: 1, Data: one}, {Pos: 3, Data: one}}, api.ErrForm},
		{2, 1, []api.Frag{{Pos: 0, Data: one}, {Pos: 1, Data: one}, {Pos: 256, Data: one}}, api.ErrForm},
		{255, 0, []api.Frag{{Pos: 255}}, api.ErrForm},
		{1, 0, []api.Frag{{Pos: 0}, {Pos: 1}}, api.ErrForm},
		{2, 1, []api.Frag{{Pos: 0, Data: one}, {Pos: 1, Data: two}}, api.ErrForm},
		{2, 1, []api.Frag{{Pos: 0, Data: one}, {Pos: 1}}, api.ErrForm},
		{2, 1, []api.Frag{{Pos: 0}, {Pos: 1, Data: one}}, api.ErrForm},
		{2, 1, []api.Frag{{Pos: 0, Data: one}, {Pos: 0, Data: two}}, api.ErrForm},
		{2, 1, []api.Frag{{Pos: 0, Data: one}, {Pos: 1, Data: one}, {Pos: 1, Data: two}}, api.ErrForm},
		{1, 1, []api.Frag{{Pos: 0, Data: two}, {Pos: 1, Data: one}}, api.ErrForm},
		{1, 0, nil, api.ErrFew},
		{2, 1, nil, api.ErrFew},
		{2, 1, []api.Frag{}, api.ErrFew},
		{2, 1, []api.Frag{{Pos: 2, Data: one}}, api.ErrFew},
		{2, 1, []api.Frag{{Pos: 2, Data: one}, {Pos: 2, Data: one}, {Pos: 2, Data: one}}, api.ErrFew},
		{3, 1, []api.Frag{{Pos: 2}, {Pos: 0}, {Pos: 2}, {Pos: 0}}, api.ErrFew},
		{255, 0, []api.Frag{{Pos: 254}}, api.ErrFew},
	}
}

func TestDecodeErrors(t *testing.T) {
	for _, c := range wrongCodes() {
		for _, list := range [][]api.Frag{nil, {{Pos: 0}}, {{Pos: -1}, {Pos: 0, Data: []byte{1}}}} {
			if got, e := Decode(c[0], c[1], list); e != api.ErrRange || len(got) != 0 {
				t.Errorf("Decode(%d, %d) = %v, %d", c[0], c[1], got, e)
			}
			for _, pos := range []int{0, -1} {
				if got, e := Rebuild(c[0], c[1], pos, list); e != api.ErrRange || len(got) != 0 {
					t.Errorf("Rebuild(%d, %d, %d) = %v, %d", c[0], c[1], pos, got, e)
				}
			}
		}
	}
	for _, c := range decodeFaults() {
		if got, e := Decode(c.k, c.m, c.list); e != c.want || len(got) != 0 {
			t.Errorf("Decode(%d, %d, %v) = %v, %d, want %d", c.k, c.m, c.list, got, e, c.want)
		}
		for _, pos := range []int{0, -1, c.k + c.m, math.MaxInt} {
			if got, e := Rebuild(c.k, c.m, pos, c.list); e != c.want || len(got) != 0 {
				t.Errorf("Rebuild(%d, %d, %d, %v) = %v, %d, want %d", c.k, c.m, pos, c.list, got, e, c.want)
			}
		}
	}
}

func TestRebuildNone(t *testing.T) {
	for _, c := range [][2]int{{1, 0}, {1, 1}, {2, 1}, {16, 239}, {255, 0}} {
		k, m := c[0], c[1]
		for _, width := range []int{0, 3} {
			var list []api.Frag
			for pos, data := range sample(k, width, 5) {
				list = append(list, api.Frag{Pos: pos, Data: data})
			}
			for _, pos := range []int{-1, k + m, k + m + 1, 256, math.MinInt, math.MaxInt} {
				if got, e := Rebuild(k, m, pos, list); e != api.ErrNone || len(got) != 0 {
					t.Errorf("Rebuild(%d, %d, %d) = %v, %d", k, m, pos, got, e)
				}
			}
		}
	}
}

func TestDecodeMemory(t *testing.T) {
	original := encoded(2, sample(3, 5, 2))
	fragments := make([][]byte, len(original))
	list := make([]api.Frag, 0, 7)
	for _, pos := range []int{1, 4, 1, 0, 2} {
		if fragments[pos] == nil {
			fragments[pos] = roomy(original[pos])
		}
		list = append(list, api.Frag{Pos: pos, Data: fragments[pos]})
	}
	whole := append(list, api.Frag{Pos: 77}, api.Frag{Pos: 77})
	shards, e := Decode(3, 2, list)
	if e != api.OK || !apart(shards) {
		t.Errorf("shards share memory, error %d", e)
	}
	clear(shards[:cap(shards)])
	for pos := range 5 {
		data, e := Rebuild(3, 2, pos, list)
		if e != api.OK || !bytes.Equal(data, original[pos]) {
			t.Errorf("Rebuild of %d = %v, %d, want %v", pos, data, e, original[pos])
		}
		clear(data[:cap(data)])
	}
	for i, pos := range []int{1, 4, 1, 0, 2, 77, 77} {
		if whole[i].Pos != pos || pos < 5 && !untouched(whole[i].Data, original[pos]) {
			t.Errorf("fragment %d of the list was changed: %v", i, whole[i])
		}
	}
	if whole[5].Data != nil || whole[6].Data != nil {
		t.Error("the list's capacity was changed")
	}
}
