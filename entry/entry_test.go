package entry

import (
	"bytes"
	"encoding/binary"
	"math"
	"reflect"
	"slices"
	"strings"
	"testing"

	"deadeye/api"
)

// fault is a change to a sound entry or record, and whether it stays sound.
type fault[T any] struct {
	name  string
	sound bool
	apply func(*T)
}

// limits returns the changes that set a number to values around its limits.
func limits[T any](name string, least, most int, set func(*T, int)) []fault[T] {
	var list []fault[T]
	for _, n := range []int{
		least, least + 1, (least + most) / 2, most - 1, most,
		least - 1, least - 2, most + 1, most + 2, -least - 1, -most, -1, most + 1<<8, most + 1<<32, math.MinInt, math.MinInt + 1, math.MaxInt, math.MaxInt - 1,
	} {
		list = append(list, fault[T]{name, n >= least && n <= most, func(x *T) { set(x, n) }})
	}
	return list
}

func entryFaults() []fault[api.Entry] {
	list := slices.Concat(
		limits("Seq", 0, 1<<40, func(e *api.Entry, n int) { e.Seq = n }),
		limits("Client", 0, 3, func(e *api.Entry, n int) { e.Client = n }),
		limits("Num", 0, 1<<40, func(e *api.Entry, n int) { e.Num = n }),
		limits("Op", 0, 5, func(e *api.Entry, n int) { e.Op = n }),
		limits("Size", 0, 256, func(e *api.Entry, n int) { e.Size = n }),
	)
	for _, length := range []int{0, 1, 15, 16, 17, 18, 32, 256, 1000, 100000} {
		list = append(list,
			fault[api.Entry]{"Key", length <= 16, func(e *api.Entry) { e.Key = strings.Repeat("\xff", length) }},
			fault[api.Entry]{"Key", length <= 16, func(e *api.Entry) { e.Key = strings.Repeat("\x00", length) }})
	}
	for _, length := range []int{0, 1, 16, 17, 63, 64, 255, 256, 257, 258, 512, 100000} {
		list = append(list, fault[api.Entry]{"Frag", length <= 256, func(e *api.Entry) { e.Frag = make([]byte, length) }})
	}
	for _, check := range []uint32{0, 1, 63, 64, 1<<31 - 1, 1 << 31, 1<<32 - 1} {
		list = append(list, fault[api.Entry]{"Sum", true, func(e *api.Entry) { e.Sum = check }})
	}
	return list
}

func recordFaults() []fault[api.Rec] {
	list := slices.Concat(
		limits("Kind", 1, 4, func(r *api.Rec, n int) { r.Kind = n }),
		limits("Epoch", 0, 1<<40, func(r *api.Rec, n int) { r.Conf.Epoch = n }),
		limits("Pos", 0, 15, func(r *api.Rec, n int) { r.Pos = n }),
		limits("Last", 0, 1<<40, func(r *api.Rec, n int) { r.Last = n }),
	)
	for _, place := range []int{0, 1, 15} {
		list = append(list, limits("Members", 0, 15, func(r *api.Rec, n int) {
			r.Conf.Members = make([]int, 16)
			r.Conf.Members[place] = n
		})...)
	}
	for _, length := range []int{0, 1, 15, 16, 17, 32, 1000} {
		list = append(list, fault[api.Rec]{"length of Members", length <= 16, func(r *api.Rec) { r.Conf.Members = make([]int, length) }})
	}
	for _, length := range []int{0, 1, 63, 64, 4095, 4096, 4097, 10000} {
		list = append(list, fault[api.Rec]{"length of Entries", length <= 4096, func(r *api.Rec) { r.Entries = make([]api.Entry, length) }})
	}
	for _, f := range entryFaults() {
		for _, place := range []int{0, 1, 2} {
			list = append(list, fault[api.Rec]{"Entries: " + f.name, f.sound, func(r *api.Rec) {
				r.Entries = []api.Entry{sampleEntry(), {}, sampleEntry()}
				f.apply(&r.Entries[place])
			}})
		}
	}
	return list
}

// sampleEntry has no two fields of one value, so that exchanged ones are seen.
func sampleEntry() api.Entry {
	return api.Entry{Seq: 1000, Client: 3, Num: 70, Op: api.Put, Key: "key\x00\xff", Size: 200, Sum: 0xfedcba98, Frag: []byte{9, 0, 255, 128}}
}

func sampleRecord() api.Rec {
	second := api.Entry{Seq: 1001, Client: 2, Num: 71, Op: api.Del, Key: "", Size: 0, Sum: 5, Frag: nil}
	return api.Rec{Kind: api.RecStage, Conf: api.Conf{Epoch: 300, Members: []int{7, 0, 15}}, Pos: 2, Last: 999, Entries: []api.Entry{sampleEntry(), second}}
}

// fullest returns the record with the longest encoding.
func fullest() api.Rec {
	r := api.Rec{Kind: 4, Conf: api.Conf{Epoch: 1 << 40}, Pos: 15, Last: 1 << 40}
	for range 16 {
		r.Conf.Members = append(r.Conf.Members, 15)
	}
	for i := range 4096 {
		e := api.Entry{Seq: 1 << 40, Client: 3, Num: 1 << 40, Op: 5, Key: strings.Repeat("\xff", 16), Size: 256, Sum: math.MaxUint32 - uint32(i)}
		e.Frag = bytes.Repeat([]byte{byte(i)}, 256)
		r.Entries = append(r.Entries, e)
	}
	return r
}

// sameRecord takes nil and empty slices for equal.
func sameRecord(a, b api.Rec) bool {
	return a.Kind == b.Kind && a.Conf.Epoch == b.Conf.Epoch && a.Pos == b.Pos && a.Last == b.Last &&
		slices.Equal(a.Conf.Members, b.Conf.Members) &&
		slices.EqualFunc(a.Entries, b.Entries, func(x, y api.Entry) bool {
			fragX, fragY := string(x.Frag), string(y.Frag)
			x.Frag, y.Frag = nil, nil
			return reflect.DeepEqual(x, y) && fragX == fragY
		})
}

// encoding takes the library's varints, which are those of package pack.
func encoding(r api.Rec) []byte {
	var b []byte
	put := func(list ...int) {
		for _, n := range list {
			b = binary.AppendVarint(b, int64(n))
		}
	}
	put(r.Kind, r.Conf.Epoch, r.Pos, r.Last, len(r.Conf.Members))
	put(r.Conf.Members...)
	put(len(r.Entries))
	for _, e := range r.Entries {
		put(e.Seq, e.Client, e.Num, e.Op, e.Size, int(e.Sum), len(e.Key))
		b = append(b, e.Key...)
		put(len(e.Frag))
		b = append(b, e.Frag...)
	}
	return b
}

// scanner reads an encoding with the library's varints, and checks each limit
// where it reads.
type scanner struct {
	rest []byte
	ok   bool
}

func (s *scanner) number(least, most int) int {
	n, length := binary.Varint(s.rest)
	if !s.ok || length <= 0 || len(binary.AppendVarint(nil, n)) != length || int(n) < least || int(n) > most {
		s.ok = false
		return 0
	}
	s.rest = s.rest[length:]
	return int(n)
}

func (s *scanner) text(most int) []byte {
	length := s.number(0, min(most, len(s.rest)))
	if !s.ok || length > len(s.rest) {
		s.ok = false
		return nil
	}
	text := s.rest[:length]
	s.rest = s.rest[length:]
	return text
}

func (s *scanner) entry() api.Entry {
	var e api.Entry
	e.Seq, e.Client, e.Num = s.number(0, 1<<40), s.number(0, 3), s.number(0, 1<<40)
	e.Op, e.Size, e.Sum = s.number(0, 5), s.number(0, 256), uint32(s.number(0, 1<<32-1))
	e.Key, e.Frag = string(s.text(16)), s.text(256)
	return e
}

// decoded returns the record whose encoding is b, and whether there is one.
func decoded(b []byte) (api.Rec, bool) {
	s := &scanner{rest: b, ok: true}
	var r api.Rec
	r.Kind, r.Conf.Epoch, r.Pos, r.Last = s.number(1, 4), s.number(0, 1<<40), s.number(0, 15), s.number(0, 1<<40)
	for count := s.number(0, 16); count > 0; count-- {
		r.Conf.Members = append(r.Conf.Members, s.number(0, 15))
	}
	for count := s.number(0, 4096); count > 0; count-- {
		r.Entries = append(r.Entries, s.entry())
	}
	return r, s.ok && len(s.rest) == 0
}

// checkDecode checks that Decode finds in b what there is.
func checkDecode(t *testing.T, b []byte) {
	t.Helper()
	got, e := Decode(b)
	want, ok := decoded(b)
	if ok && (e != api.OK || !sameRecord(got, want)) {
		t.Errorf("Decode(%x) = %#v, %d, want %#v", b, got, e, want)
	}
	if !ok && (e != api.ErrForm || !sameRecord(got, api.Rec{})) {
		t.Errorf("Decode(%x) = %#v, %d, want ErrForm", b, got, e)
	}
}

// P7.1: Sound

func TestSound(t *testing.T) {
	for _, e := range []api.Entry{
		{}, {Frag: []byte{}}, sampleEntry(),
		{Seq: 1 << 40, Client: 3, Num: 1 << 40, Op: 5, Key: "0123456789abcdef", Size: 256, Sum: 1<<32 - 1, Frag: make([]byte, 256)},
		// Nothing holds the fields against each other.
		{Op: api.Get, Size: 0, Frag: []byte("abc")}, {Op: 0, Key: "k"}, {Op: api.Put, Size: 256}, {Seq: 5, Num: 9},
	} {
		if !Sound(e) {
			t.Errorf("Sound(%#v) = false", e)
		}
	}
}

func TestSoundLimits(t *testing.T) {
	for _, f := range entryFaults() {
		for _, e := range []api.Entry{{}, sampleEntry()} {
			f.apply(&e)
			if Sound(e) != f.sound {
				t.Errorf("%s: Sound(%#v) = %t", f.name, e, !f.sound)
			}
		}
	}
}

// P7.1: Encode

func TestEncodeByHand(t *testing.T) {
	for _, c := range []struct {
		r    api.Rec
		want string
	}{
		{api.Rec{Kind: api.RecEntry}, "\x02\x00\x00\x00\x00\x00"},
		{api.Rec{Kind: api.RecActivate, Conf: api.Conf{Epoch: 1, Members: []int{}}, Entries: []api.Entry{}}, "\x08\x02\x00\x00\x00\x00"},
		{api.Rec{Kind: api.RecSeal, Conf: api.Conf{Epoch: 64, Members: []int{5, 15}}, Pos: 3, Last: 63}, "\x04\x80\x01\x06\x7e\x04\x0a\x1e\x00"},
		{api.Rec{Kind: api.RecStage, Last: 1 << 40, Entries: []api.Entry{{}}}, "\x06\x00\x00\x80\x80\x80\x80\x80\x40\x00\x02\x00\x00\x00\x00\x00\x00\x00\x00"},
		{api.Rec{Kind: api.RecEntry, Entries: []api.Entry{{Seq: 1, Client: 2, Num: 3, Op: 4, Key: "ab", Size: 5, Sum: 6, Frag: []byte("xyz")}}}, "\x02\x00\x00\x00\x00\x02\x02\x04\x06\x08\x0a\x0c\x04ab\x06xyz"},
		{api.Rec{Kind: api.RecEntry, Entries: []api.Entry{{Sum: math.MaxUint32, Frag: []byte{0}}, {Client: 3, Key: "\xff"}}},
			"\x02\x00\x00\x00\x00\x04\x00\x00\x00\x00\x00\xfe\xff\xff\xff\x1f\x00\x02\x00\x00\x06\x00\x00\x00\x00\x02\xff\x00"},
	} {
		if got, e := Encode(c.r); e != api.OK || string(got) != c.want {
			t.Errorf("Encode(%#v) = %x, %d, want %x", c.r, got, e, c.want)
		}
		if got, e := Decode([]byte(c.want)); e != api.OK || !sameRecord(got, c.r) {
			t.Errorf("Decode(%x) = %#v, %d, want %#v", c.want, got, e, c.r)
		}
	}
}

func TestLimitsOfRecords(t *testing.T) {
	for _, f := range recordFaults() {
		for _, r := range []api.Rec{{Kind: 1}, sampleRecord()} {
			f.apply(&r)
			b := encoding(r)
			got, e := Encode(r)
			if f.sound && (e != api.OK || !bytes.Equal(got, b)) {
				t.Errorf("%s: Encode(%#v) = %x, %d, want %x", f.name, r, got, e, b)
			}
			if !f.sound && (e != api.ErrForm || len(got) != 0) {
				t.Errorf("%s: Encode = %d bytes, %d, want ErrForm", f.name, len(got), e)
			}
			back, e := Decode(b)
			if f.sound && (e != api.OK || !sameRecord(back, r)) {
				t.Errorf("%s: Decode(%x) = %#v, %d, want %#v", f.name, b, back, e, r)
			}
			if !f.sound && (e != api.ErrForm || !sameRecord(back, api.Rec{})) {
				t.Errorf("%s: Decode of a record that is not sound = %#v, %d", f.name, back, e)
			}
		}
	}
}

// The zero record is not sound: it has no kind.
func TestEncodeZero(t *testing.T) {
	if b, e := Encode(api.Rec{}); e != api.ErrForm || len(b) != 0 {
		t.Errorf("Encode of the zero record = %x, %d", b, e)
	}
}

func TestFullestRecord(t *testing.T) {
	r := fullest()
	want := encoding(r)
	b, e := Encode(r)
	if e != api.OK || !bytes.Equal(b, want) {
		t.Fatalf("Encode of the fullest record: wrong, %d bytes, error %d", len(b), e)
	}
	if got, e := Decode(b); e != api.OK || !sameRecord(got, r) {
		t.Errorf("Decode of the fullest record: wrong, error %d", e)
	}
	if _, e := Decode(b[:len(b)-1]); e != api.ErrForm {
		t.Errorf("Decode of the fullest record without its last byte: error %d", e)
	}
	r.Entries[4095].Client = 4
	if b, e := Encode(r); e != api.ErrForm || len(b) != 0 {
		t.Errorf("Encode with the last entry not sound = %d bytes, %d", len(b), e)
	}
	if got, e := Decode(encoding(r)); e != api.ErrForm || !sameRecord(got, api.Rec{}) {
		t.Errorf("Decode with the last entry not sound: error %d", e)
	}
}

func TestEncodeMemory(t *testing.T) {
	r := sampleRecord()
	r.Conf.Members = append(r.Conf.Members, 77, 77)[:3]
	r.Entries = append(r.Entries, api.Entry{Seq: 77})[:2]
	frag := append(slices.Clone(r.Entries[0].Frag), 77, 77)
	r.Entries[0].Frag = frag[:4]
	want := encoding(r)
	first, _ := Encode(r)
	second, _ := Encode(r)
	for i := range first[:cap(first)] {
		first[:cap(first)][i] = 55
	}
	if !bytes.Equal(second, want) {
		t.Error("two results of Encode share memory")
	}
	if !sameRecord(r, sampleRecord()) || !slices.Equal(r.Conf.Members[:5], []int{7, 0, 15, 77, 77}) || r.Entries[:3][2].Seq != 77 || !slices.Equal(frag[4:], []byte{77, 77}) {
		t.Errorf("Encode changed its argument: %#v", r)
	}
	frag[0]++
	r.Conf.Members[0]++
	r.Entries[1].Seq++
	if !bytes.Equal(second, want) {
		t.Error("a result of Encode shares memory with the record")
	}
}

// P7.1: Decode

func TestDecodeCut(t *testing.T) {
	for _, r := range []api.Rec{{Kind: 1}, sampleRecord()} {
		b := encoding(r)
		for cut := range b {
			if got, e := Decode(b[:cut]); e != api.ErrForm || !sameRecord(got, api.Rec{}) {
				t.Errorf("Decode of %d of %d bytes = %#v, %d", cut, len(b), got, e)
			}
		}
		for more := range 256 {
			if got, e := Decode(append(slices.Clone(b), byte(more))); e != api.ErrForm || !sameRecord(got, api.Rec{}) {
				t.Errorf("Decode with the byte %d behind it = %#v, %d", more, got, e)
			}
		}
	}
	for _, b := range [][]byte{nil, {}} {
		if got, e := Decode(b); e != api.ErrForm || !sameRecord(got, api.Rec{}) {
			t.Errorf("Decode(%#v) = %#v, %d", b, got, e)
		}
	}
}

// Each byte of an encoding is replaced, left out and doubled.
func TestDecodeChanged(t *testing.T) {
	for _, r := range []api.Rec{{Kind: 1}, sampleRecord()} {
		b := encoding(r)
		for i := range b {
			for x := range 256 {
				changed := slices.Clone(b)
				changed[i] = byte(x)
				checkDecode(t, changed)
				checkDecode(t, slices.Insert(slices.Clone(b), i, byte(x)))
			}
			checkDecode(t, slices.Delete(slices.Clone(b), i, i+1))
		}
	}
}

func TestDecodeShortStrings(t *testing.T) {
	for _, before := range []string{"", "\x02\x00\x00", "\x02\x00\x00\x00", "\x02\x00\x00\x00\x00\x02\x00\x00\x00\x00\x00\x00"} {
		for i := range 256 {
			checkDecode(t, append([]byte(before), byte(i)))
			for j := range 256 {
				checkDecode(t, append([]byte(before), byte(i), byte(j)))
				checkDecode(t, append([]byte(before), byte(i), byte(j), 0))
			}
		}
	}
}

// Each number of an encoding is written with a byte more than necessary.
func TestDecodeLongNumbers(t *testing.T) {
	r := sampleRecord()
	r.Entries[0].Key, r.Entries[0].Frag = "", nil
	b := encoding(r)
	for i, x := range b {
		if x >= 128 {
			continue
		}
		long := slices.Concat(b[:i], []byte{x + 128, 0}, b[i+1:])
		if got, e := Decode(long); e != api.ErrForm || !sameRecord(got, api.Rec{}) {
			t.Errorf("Decode with a long number at %d = %#v, %d", i, got, e)
		}
	}
}

// Sum is no uint32 here, but its lowest 32 bits would be one.
func TestDecodeSumOutOfRange(t *testing.T) {
	before := []byte{2, 0, 0, 0, 0, 2, 0, 0, 0, 0, 0}
	for _, c := range []struct {
		sum  int64
		want api.Errno
	}{
		{0, api.OK}, {1, api.OK}, {1 << 31, api.OK}, {1<<32 - 1, api.OK},
		{1 << 32, api.ErrForm}, {1<<32 + 1, api.ErrForm}, {1<<33 - 1, api.ErrForm}, {-1, api.ErrForm}, {-1 << 31, api.ErrForm}, {-1 << 32, api.ErrForm},
		{1 << 40, api.ErrForm}, {math.MaxInt64, api.ErrForm}, {math.MinInt64, api.ErrForm},
	} {
		b := append(binary.AppendVarint(slices.Clone(before), c.sum), 0, 0)
		got, e := Decode(b)
		if e != c.want || e != api.OK && !sameRecord(got, api.Rec{}) || e == api.OK && int64(got.Entries[0].Sum) != c.sum {
			t.Errorf("Decode with the sum %d = %#v, %d, want %d", c.sum, got, e, c.want)
		}
	}
}

// Numbers of items that are too large, or wrong, with as many items behind
// them as there is room for, or none.
func TestDecodeWrongCounts(t *testing.T) {
	for _, count := range []int{-1, -2, math.MinInt, 17, 18, 4097, 1 << 31, 1 << 40, math.MaxInt} {
		members := binary.AppendVarint([]byte{2, 0, 0, 0}, int64(count))
		entries := binary.AppendVarint([]byte{2, 0, 0, 0, 0}, int64(count))
		for _, b := range [][]byte{members, entries} {
			for _, behind := range []int{0, 1, 2, 18, 19, 100} {
				got, e := Decode(append(slices.Clone(b), make([]byte, behind)...))
				if e != api.ErrForm || !sameRecord(got, api.Rec{}) {
					t.Errorf("Decode with the count %d = %#v, %d", count, got, e)
				}
			}
		}
	}
	for _, length := range []int64{-1, -64, math.MinInt64, 1, 3, 1 << 31, 1 << 40, math.MaxInt64} {
		key := append(binary.AppendVarint([]byte{2, 0, 0, 0, 0, 2, 0, 0, 0, 0, 0, 0}, length), 0)
		frag := binary.AppendVarint([]byte{2, 0, 0, 0, 0, 2, 0, 0, 0, 0, 0, 0, 0}, length)
		for _, b := range [][]byte{key, frag} {
			if got, e := Decode(b); e != api.ErrForm || !sameRecord(got, api.Rec{}) {
				t.Errorf("Decode with a string of the length %d = %#v, %d", length, got, e)
			}
		}
	}
}

func TestDecodeMemory(t *testing.T) {
	r := sampleRecord()
	r.Entries[1].Frag = []byte{1, 2, 3}
	want := encoding(r)
	whole := append(slices.Clone(want), 77, 77, 77)
	b := whole[:len(want)]
	first, _ := Decode(b)
	second, _ := Decode(b)
	if !bytes.Equal(whole, append(slices.Clone(want), 77, 77, 77)) {
		t.Error("Decode changed its argument")
	}
	clear(whole)
	if !sameRecord(first, r) || !sameRecord(second, r) {
		t.Error("a result of Decode shares memory with its argument")
	}
	frag := first.Entries[0].Frag
	for i := range frag[:cap(frag)] {
		frag[:cap(frag)][i] = 55
	}
	if !slices.Equal(first.Entries[1].Frag, []byte{1, 2, 3}) {
		t.Error("two fragments of a record share memory")
	}
	members := first.Conf.Members
	clear(members[:cap(members)])
	clear(first.Entries[:cap(first.Entries)])
	if !sameRecord(second, r) {
		t.Error("two results of Decode share memory")
	}
}

// P7.1: Same

func TestSame(t *testing.T) {
	for _, e := range []api.Entry{{}, sampleEntry()} {
		other := e
		other.Frag = slices.Clone(e.Frag)
		if !Same(e, e) || !Same(e, other) || !Same(other, e) {
			t.Errorf("Same(%#v) with itself = false", e)
		}
	}
	empty := []api.Entry{{}, {Frag: []byte{}}, {Frag: make([]byte, 0, 9)}, {Frag: []byte("abc")[:0]}}
	for _, a := range empty {
		for _, b := range empty {
			if !Same(a, b) {
				t.Errorf("Same(%#v, %#v) = false", a, b)
			}
		}
	}
}

func TestSameDifferences(t *testing.T) {
	for i, change := range []func(*api.Entry){
		func(e *api.Entry) { e.Seq++ }, func(e *api.Entry) { e.Seq += 1 << 32 }, func(e *api.Entry) { e.Seq = -e.Seq - 1 },
		func(e *api.Entry) { e.Client++ }, func(e *api.Entry) { e.Client -= 1 << 8 },
		func(e *api.Entry) { e.Num++ }, func(e *api.Entry) { e.Num = math.MinInt },
		func(e *api.Entry) { e.Op++ }, func(e *api.Entry) { e.Op = math.MaxInt },
		func(e *api.Entry) { e.Key += "\x00" }, func(e *api.Entry) { e.Key = "x" + e.Key }, func(e *api.Entry) { e.Key += "long enough not to be sound" },
		func(e *api.Entry) { e.Size++ }, func(e *api.Entry) { e.Size += 1 << 32 },
		func(e *api.Entry) { e.Sum++ }, func(e *api.Entry) { e.Sum ^= 1 << 31 },
		func(e *api.Entry) { e.Frag = append(slices.Clone(e.Frag), 0) },
		func(e *api.Entry) { e.Frag = append([]byte{5}, e.Frag...) },
		func(e *api.Entry) { e.Frag = make([]byte, 300) },
	} {
		for _, e := range []api.Entry{{}, sampleEntry()} {
			other := e
			change(&other)
			if Same(e, other) || Same(other, e) {
				t.Errorf("change %d: Same(%#v, %#v) = true", i, e, other)
			}
			// Entries that are not sound are equal to themselves too.
			if !Same(other, other) {
				t.Errorf("change %d: Same(%#v) with itself = false", i, other)
			}
		}
	}
	a, b := sampleEntry(), sampleEntry()
	for i := range a.Frag {
		b.Frag = slices.Clone(a.Frag)
		b.Frag[i] ^= 128
		if Same(a, b) {
			t.Errorf("Same with byte %d of the fragments different = true", i)
		}
	}
}

// Two fields that are exchanged do not make up for each other.
func TestSameExchanged(t *testing.T) {
	if Same(api.Entry{Seq: 1, Num: 2}, api.Entry{Seq: 2, Num: 1}) || Same(api.Entry{Key: "a"}, api.Entry{Frag: []byte("a")}) || Same(api.Entry{Size: 1}, api.Entry{Sum: 1}) {
		t.Error("Same of entries with exchanged fields = true")
	}
}

// Entries are compared, and asked whether they are sound, without a change.
func TestEntriesUnchanged(t *testing.T) {
	frag := []byte{1, 2, 77, 77}
	e := sampleEntry()
	e.Frag = frag[:2]
	Sound(e)
	Same(e, e)
	if !slices.Equal(frag, []byte{1, 2, 77, 77}) {
		t.Errorf("a fragment was changed: %#v", frag)
	}
}

func FuzzDecode(f *testing.F) {
	for _, r := range []api.Rec{{Kind: 1}, sampleRecord()} {
		f.Add(encoding(r))
	}
	f.Fuzz(func(t *testing.T, b []byte) {
		checkDecode(t, b)
		if r, e := Decode(b); e == api.OK {
			if again, e := Encode(r); e != api.OK || !bytes.Equal(again, b) {
				t.Errorf("Encode(Decode(%x)) = %x, %d", b, again, e)
			}
		}
	})
}
