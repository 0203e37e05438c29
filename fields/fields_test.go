package fields

import (
	"bytes"
	"encoding/binary"
	"math"
	"slices"
	"strconv"
	"testing"

	"deadeye/api"
	"deadeye/pack"
)

func TestWithin(t *testing.T) {
	extremes := []int{math.MinInt, math.MinInt + 1, -2, -1, 0, 1, 2, math.MaxInt - 1, math.MaxInt}
	for _, n := range extremes {
		for _, least := range extremes {
			for _, most := range extremes {
				want := slices.Max([]int{n, least}) == n && slices.Min([]int{n, most}) == n
				if got := Within(n, least, most); got != want {
					t.Errorf("Within(%d, %d, %d) = %t", n, least, most, got)
				}
			}
		}
	}
}

func TestAll(t *testing.T) {
	even := func(n int) bool { return n%2 == 0 }
	for _, c := range []struct {
		list []int
		most int
		want bool
	}{
		{nil, 0, true}, {[]int{}, 0, true}, {nil, 3, true}, {nil, -1, false},
		{[]int{2}, 1, true}, {[]int{2}, 0, false}, {[]int{1}, 1, false},
		{[]int{2, 4, 2}, 3, true}, {[]int{2, 4, 2}, 2, false},
		{[]int{1, 4, 2}, 3, false}, {[]int{2, 1, 2}, 3, false}, {[]int{2, 4, 1}, 3, false}, {[]int{1, 1, 1}, 3, false},
	} {
		if got := All(c.list, c.most, even); got != c.want {
			t.Errorf("All(%v, %d, even) = %t", c.list, c.most, got)
		}
	}
}

func TestSoundPlace(t *testing.T) {
	for n, want := range map[int]bool{0: true, 1: true, 15: true, -1: false, 16: false, 256: false, math.MinInt: false, math.MaxInt: false} {
		if got := SoundPlace(n); got != want {
			t.Errorf("SoundPlace(%d) = %t", n, got)
		}
	}
}

func TestSoundParty(t *testing.T) {
	for n, want := range map[int]bool{-5: true, -2: true, -1: true, 0: true, 15: true, -6: false, 16: false, 256: false, math.MinInt: false, math.MaxInt: false} {
		if got := SoundParty(n); got != want {
			t.Errorf("SoundParty(%d) = %t", n, got)
		}
	}
}

func TestSoundConf(t *testing.T) {
	for _, c := range []struct {
		conf api.Conf
		want bool
	}{
		{api.Conf{}, true},
		{api.Conf{Epoch: 1 << 40, Members: []int{15, 0, 15}}, true},
		{api.Conf{Members: make([]int, 16)}, true},
		{api.Conf{Epoch: -1}, false},
		{api.Conf{Epoch: 1<<40 + 1}, false},
		{api.Conf{Members: make([]int, 17)}, false},
		{api.Conf{Members: []int{0, 16}}, false},
		{api.Conf{Members: []int{-1, 0}}, false},
	} {
		if got := SoundConf(c.conf); got != c.want {
			t.Errorf("SoundConf(%#v) = %t", c.conf, got)
		}
	}
}

func TestWord(t *testing.T) {
	for _, n := range []uint32{0, 1, 255, 256, 0x01020304, 0x80000000, 0xfedcba98, math.MaxUint32} {
		if got, want := Word(n), binary.BigEndian.AppendUint32(nil, n); !bytes.Equal(got, want) {
			t.Errorf("Word(%#x) = %x, want %x", n, got, want)
		}
	}
}

func TestNumbers(t *testing.T) {
	list := []int{0, 1, -1, 63, 64, -64, -65, 1 << 40, math.MinInt, math.MaxInt}
	var want []byte
	for i, n := range list {
		if got := Numbers(list[:i]...); !bytes.Equal(got, want) {
			t.Errorf("Numbers(%v) = %x, want %x", list[:i], got, want)
		}
		want = binary.AppendVarint(want, int64(n))
	}
	if got := Numbers(); len(got) != 0 {
		t.Errorf("Numbers() = %x", got)
	}
}

func TestEntry(t *testing.T) {
	for _, c := range []struct {
		e    api.Entry
		want string
	}{
		{api.Entry{}, "\x00\x00\x00\x00\x00\x00\x00\x00"},
		{api.Entry{Seq: 1, Client: 2, Num: 3, Op: 4, Key: "ab", Size: 5, Sum: 6, Frag: []byte("xyz")}, "\x02\x04\x06\x08\x0a\x0c\x04ab\x06xyz"},
		{api.Entry{Sum: math.MaxUint32}, "\x00\x00\x00\x00\x00\xfe\xff\xff\xff\x1f\x00\x00"},
		// One that is not sound is written and read like any other.
		{api.Entry{Seq: -1, Client: -2, Num: -3, Op: -4, Size: -5}, "\x01\x03\x05\x07\x09\x00\x00\x00"},
	} {
		if got := Entry(c.e); string(got) != c.want {
			t.Errorf("Entry(%#v) = %x, want %x", c.e, got, c.want)
		}
		reader := pack.New([]byte(c.want))
		if got := ReadEntry(reader); !bytes.Equal(Entry(got), Entry(c.e)) || !reader.End() {
			t.Errorf("ReadEntry(%x) = %#v, want %#v", c.want, got, c.e)
		}
	}
}

// A Sum beyond 32 bits is not cut off.
func TestReadEntrySum(t *testing.T) {
	for _, n := range []int{-1, 1 << 32, 1<<32 + 1, math.MaxInt, math.MinInt} {
		reader := pack.New(append(Numbers(0, 0, 0, 0, 0, n), 0, 0))
		if e := ReadEntry(reader); e.Sum != 0 || reader.End() {
			t.Errorf("ReadEntry with the sum %d = %#v, at its end: %t", n, e, reader.End())
		}
	}
}

func TestList(t *testing.T) {
	text := func(n int) []byte { return []byte("<" + strconv.Itoa(n) + ">") }
	for _, c := range []struct {
		list []int
		want string
	}{
		{nil, "\x00"}, {[]int{}, "\x00"}, {[]int{7}, "\x02<7>"}, {[]int{7, 0, 7}, "\x06<7><0><7>"},
	} {
		if got := List(c.list, text); string(got) != c.want {
			t.Errorf("List(%v) = %q, want %q", c.list, got, c.want)
		}
	}
}

func TestReadList(t *testing.T) {
	for _, c := range []struct {
		b    []byte
		want []int
		end  bool
	}{
		{Numbers(0), nil, true},
		{Numbers(1, 5), []int{5}, true},
		{Numbers(3, 5, -6, 7), []int{5, -6, 7}, true},
		{Numbers(2, 5, -6, 7), []int{5, -6}, false},
		{Numbers(4, 1, 2, 3, 4), nil, false},
		{Numbers(-1, 1), nil, false},
		{Numbers(math.MaxInt, 1), nil, false},
		{nil, nil, false},
		// What is missing reads as 0, and the end tells.
		{Numbers(3, 5), []int{5, 0, 0}, false},
	} {
		reader := pack.New(c.b)
		if got := ReadList(reader, 3, (*pack.Reader).Num); !slices.Equal(got, c.want) || reader.End() != c.end {
			t.Errorf("ReadList(%x) = %v, at its end: %t, want %v, %t", c.b, got, reader.End(), c.want, c.end)
		}
	}
}

// roomy returns an entry whose fragment has spare capacity.
func roomy(n int) api.Entry {
	return api.Entry{Seq: n, Client: 2, Num: 3, Op: 4, Key: "ab", Size: 5, Sum: 6, Frag: append(make([]byte, 0, 8), byte(n), 9)}
}

func TestCopyConf(t *testing.T) {
	members := []int{7, 2, 9, 66}
	got := CopyConf(api.Conf{Epoch: 4, Members: members[:3]})
	if got.Epoch != 4 || !slices.Equal(got.Members, []int{7, 2, 9}) {
		t.Errorf("CopyConf = %v", got)
	}
	clear(got.Members[:cap(got.Members)])
	if !slices.Equal(members, []int{7, 2, 9, 66}) {
		t.Errorf("CopyConf shares memory: %v", members)
	}
	if got := CopyConf(api.Conf{Members: []int{}}); got.Epoch != 0 || len(got.Members) != 0 {
		t.Errorf("CopyConf of no members = %v", got)
	}
}

func TestCopyEntry(t *testing.T) {
	e := roomy(1)
	got := CopyEntry(e)
	if !bytes.Equal(Entry(got), Entry(e)) {
		t.Errorf("CopyEntry(%#v) = %#v", e, got)
	}
	for i := range got.Frag[:cap(got.Frag)] {
		got.Frag[:cap(got.Frag)][i] = 77
	}
	if !bytes.Equal(e.Frag[:cap(e.Frag)], []byte{1, 9, 0, 0, 0, 0, 0, 0}) {
		t.Errorf("CopyEntry shares memory: %v", e.Frag[:cap(e.Frag)])
	}
	if got := CopyEntry(api.Entry{Seq: 1}); got.Seq != 1 || len(got.Frag) != 0 {
		t.Errorf("CopyEntry without a fragment = %#v", got)
	}
}

func TestCopyEntries(t *testing.T) {
	list := []api.Entry{roomy(0), roomy(1), roomy(2)}
	got := CopyEntries(list[:2])
	if len(got) != 2 || !bytes.Equal(List(got, Entry), List(list[:2], Entry)) {
		t.Errorf("CopyEntries = %#v", got)
	}
	for i := range got {
		got[i].Frag[0] = 77
	}
	clear(got[:cap(got)])
	for i, e := range list {
		if !bytes.Equal(Entry(e), Entry(roomy(i))) {
			t.Errorf("CopyEntries shares memory: entry %d is %#v", i, e)
		}
	}
	for _, list := range [][]api.Entry{nil, {}, list[:0]} {
		got := CopyEntries(list)
		if len(got) != 0 {
			t.Errorf("CopyEntries of nothing = %#v", got)
		}
		_ = append(got, api.Entry{Seq: 77})
	}
	if list[0].Seq != 0 {
		t.Error("CopyEntries of nothing shares memory")
	}
}
