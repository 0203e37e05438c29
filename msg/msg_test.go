package msg

import (
	"bytes"
	"encoding/binary"
	"hash/crc32"
	"math"
	"reflect"
	"slices"
	"strings"
	"testing"

	"deadeye/api"
)

// fault is a change to a sound message, and whether it stays sound.
type fault struct {
	name  string
	sound bool
	apply func(*api.Msg)
}

// limits returns the changes that set a number to values around its limits.
func limits(name string, least, most int, set func(*api.Msg, int)) []fault {
	var list []fault
	for _, n := range []int{
		least, least + 1, (least + most) / 2, most - 1, most,
		least - 1, least - 2, most + 1, most + 2, -least, -least - 1, -most, -1, -2, -5, -6, 15, 16,
		least + 1<<8, most + 1<<8, least + 1<<32, least - 1<<32, math.MinInt, math.MinInt + 1, math.MaxInt, math.MaxInt - 1,
	} {
		list = append(list, fault{name, n >= least && n <= most, func(m *api.Msg) { set(m, n) }})
	}
	return list
}

// lengths returns the changes that set a length to values around its limit.
func lengths(name string, most int, set func(*api.Msg, int)) []fault {
	var list []fault
	for _, n := range []int{0, 1, 2, most - 1, most, most + 1, most + 2, 2 * most, 16, 17, 256, 257, 5000} {
		list = append(list, fault{"length of " + name, n <= most, func(m *api.Msg) { set(m, n) }})
	}
	return list
}

// entryFaults returns the changes to one of the entries that a message holds.
func entryFaults(name string, of func(*api.Msg) *api.Entry) []fault {
	return slices.Concat(
		limits(name+" Seq", 0, 1<<40, func(m *api.Msg, n int) { of(m).Seq = n }),
		limits(name+" Client", 0, 3, func(m *api.Msg, n int) { of(m).Client = n }),
		limits(name+" Num", 0, 1<<40, func(m *api.Msg, n int) { of(m).Num = n }),
		limits(name+" Op", 0, 5, func(m *api.Msg, n int) { of(m).Op = n }),
		limits(name+" Size", 0, 256, func(m *api.Msg, n int) { of(m).Size = n }),
		lengths(name+" Key", 16, func(m *api.Msg, n int) { of(m).Key = strings.Repeat("\xff", n) }),
		lengths(name+" Frag", 256, func(m *api.Msg, n int) { of(m).Frag = make([]byte, n) }),
		[]fault{
			{name + " Sum", true, func(m *api.Msg) { of(m).Sum = 0 }},
			{name + " Sum", true, func(m *api.Msg) { of(m).Sum = 1 << 31 }},
			{name + " Sum", true, func(m *api.Msg) { of(m).Sum = 1<<32 - 1 }},
		},
	)
}

func numberFaults() []fault {
	return slices.Concat(
		limits("Kind", 1, 15, func(m *api.Msg, n int) { m.Kind = n }),
		limits("From", -5, 15, func(m *api.Msg, n int) { m.From = n }),
		limits("To", -5, 15, func(m *api.Msg, n int) { m.To = n }),
		limits("Epoch", 0, 1<<40, func(m *api.Msg, n int) { m.Epoch = n }),
		limits("E", 0, 13, func(m *api.Msg, n int) { m.E = api.Errno(n) }),
		limits("Conf's Epoch", 0, 1<<40, func(m *api.Msg, n int) { m.Conf.Epoch = n }),
	)
}

func listFaults() []fault {
	list := slices.Concat(
		lengths("Members", 16, func(m *api.Msg, n int) { m.Conf.Members = make([]int, n) }),
		lengths("Frags", 16, func(m *api.Msg, n int) { m.Frags = make([]api.Frag, n) }),
		lengths("Keys", 4096, func(m *api.Msg, n int) { m.Keys = make([]string, n) }),
		lengths("Sources", 16, func(m *api.Msg, n int) { m.Sources = make([]api.Source, n) }),
		lengths("Entries", 4096, func(m *api.Msg, n int) { m.Entries = make([]api.Entry, n) }),
	)
	for _, place := range []int{0, 1, 15} {
		list = slices.Concat(list,
			limits("Members", 0, 15, func(m *api.Msg, n int) {
				m.Conf.Members = make([]int, 16)
				m.Conf.Members[place] = n
			}),
			limits("Frags Pos", 0, 15, func(m *api.Msg, n int) {
				m.Frags = make([]api.Frag, 16)
				m.Frags[place].Pos = n
			}),
			lengths("Frags Data", 256, func(m *api.Msg, n int) {
				m.Frags = make([]api.Frag, 16)
				m.Frags[place].Data = make([]byte, n)
			}),
			lengths("Keys", 16, func(m *api.Msg, n int) {
				m.Keys = make([]string, 16)
				m.Keys[place] = strings.Repeat("\x80", n)
			}),
			limits("Sources Node", 0, 15, func(m *api.Msg, n int) {
				m.Sources = make([]api.Source, 16)
				m.Sources[place].Node = n
			}),
			limits("Sources Pos", 0, 15, func(m *api.Msg, n int) {
				m.Sources = make([]api.Source, 16)
				m.Sources[place].Pos = n
			}),
		)
	}
	return list
}

func faults() []fault {
	list := slices.Concat(numberFaults(), listFaults(), entryFaults("Entry", func(m *api.Msg) *api.Entry { return &m.Entry }))
	for _, place := range []int{0, 1, 2} {
		list = append(list, entryFaults("Entries", func(m *api.Msg) *api.Entry {
			m.Entries = []api.Entry{sampleEntry(1), {}, sampleEntry(2)}
			return &m.Entries[place]
		})...)
	}
	return list
}

// sampleEntry has no two fields of one value, so that exchanged ones are seen.
func sampleEntry(i int) api.Entry {
	return api.Entry{Seq: 1000 + i, Client: 3, Num: 70 + i, Op: api.Del, Key: "key\x00\xff", Size: 200 + i, Sum: 0xfedcba98, Frag: []byte{9, 0, byte(i), 128}}
}

func sample() api.Msg {
	return api.Msg{
		Kind: api.MsgFrags, From: -5, To: 14, Epoch: 500, E: api.ErrFull,
		Entry:   sampleEntry(7),
		Frags:   []api.Frag{{Pos: 12, Data: []byte{1, 200}}, {Pos: 0, Data: nil}, {Pos: 3, Data: []byte("xyz")}},
		Keys:    []string{"one", "", "\x80\x00", "one"},
		Conf:    api.Conf{Epoch: 300, Members: []int{7, 0, 15, 7}},
		Sources: []api.Source{{Node: 9, Pos: 1}, {Node: 2, Pos: 13}},
		Entries: []api.Entry{sampleEntry(3), {}, {Seq: 5, Client: 1, Num: 2, Op: api.Put, Size: 4, Sum: 6}},
	}
}

// least is the sound message with the shortest encoding.
func least() api.Msg { return api.Msg{Kind: api.MsgReq} }

// fullest returns the message with the longest encoding.
func fullest() api.Msg {
	m := api.Msg{Kind: 15, From: 15, To: 15, Epoch: 1 << 40, E: 13, Conf: api.Conf{Epoch: 1 << 40}}
	fullestEntry := func(i int) api.Entry {
		return api.Entry{Seq: 1 << 40, Client: 3, Num: 1 << 40, Op: 5, Key: strings.Repeat("\xff", 16), Size: 256, Sum: math.MaxUint32 - uint32(i), Frag: bytes.Repeat([]byte{byte(i)}, 256)}
	}
	m.Entry = fullestEntry(5)
	for i := range 16 {
		m.Conf.Members = append(m.Conf.Members, 15)
		m.Frags = append(m.Frags, api.Frag{Pos: 15, Data: bytes.Repeat([]byte{byte(i)}, 256)})
		m.Sources = append(m.Sources, api.Source{Node: 15, Pos: i})
	}
	for i := range 4096 {
		m.Keys = append(m.Keys, strings.Repeat(string([]byte{byte(i)}), 16))
		m.Entries = append(m.Entries, fullestEntry(i))
	}
	return m
}

func equalEntries(a, b api.Entry) bool {
	fragA, fragB := string(a.Frag), string(b.Frag)
	a.Frag, b.Frag = nil, nil
	return reflect.DeepEqual(a, b) && fragA == fragB
}

// equal takes nil and empty slices for equal, and does not ask for soundness.
func equal(a, b api.Msg) bool {
	equalFrags := func(x, y api.Frag) bool { return x.Pos == y.Pos && string(x.Data) == string(y.Data) }
	return a.Kind == b.Kind && a.From == b.From && a.To == b.To && a.Epoch == b.Epoch && a.E == b.E &&
		equalEntries(a.Entry, b.Entry) &&
		slices.EqualFunc(a.Frags, b.Frags, equalFrags) &&
		slices.Equal(a.Keys, b.Keys) &&
		a.Conf.Epoch == b.Conf.Epoch && slices.Equal(a.Conf.Members, b.Conf.Members) &&
		slices.Equal(a.Sources, b.Sources) &&
		slices.EqualFunc(a.Entries, b.Entries, equalEntries)
}

// sealed returns b followed by its checksum, which is the library's.
func sealed(b []byte) []byte {
	return binary.BigEndian.AppendUint32(slices.Clone(b), crc32.ChecksumIEEE(b))
}

// unsealed takes the library's varints, which are those of package pack.
func unsealed(m api.Msg) []byte {
	b := []byte{1}
	put := func(list ...int) {
		for _, n := range list {
			b = binary.AppendVarint(b, int64(n))
		}
	}
	text := func(s string) {
		put(len(s))
		b = append(b, s...)
	}
	write := func(e api.Entry) {
		put(e.Seq, e.Client, e.Num, e.Op, e.Size, int(e.Sum))
		text(e.Key)
		text(string(e.Frag))
	}
	put(m.Kind, m.From, m.To, m.Epoch, int(m.E), m.Conf.Epoch, len(m.Conf.Members))
	put(m.Conf.Members...)
	write(m.Entry)
	put(len(m.Frags))
	for _, f := range m.Frags {
		put(f.Pos)
		text(string(f.Data))
	}
	put(len(m.Keys))
	for _, key := range m.Keys {
		text(key)
	}
	put(len(m.Sources))
	for _, s := range m.Sources {
		put(s.Node, s.Pos)
	}
	put(len(m.Entries))
	for _, e := range m.Entries {
		write(e)
	}
	return b
}

func encoding(m api.Msg) []byte { return sealed(unsealed(m)) }

// scanner reads an encoding with the library's varints, and checks each limit
// where it reads.
type scanner struct {
	rest []byte
	ok   bool
}

func (s *scanner) number(least, most int) int {
	n, length := binary.Varint(s.rest)
	if !s.ok || length <= 0 || len(binary.AppendVarint(nil, n)) != length || int(n) < least || int(n) > most {
		s.ok = false
		return 0
	}
	s.rest = s.rest[length:]
	return int(n)
}

func (s *scanner) text(most int) []byte {
	length := s.number(0, min(most, len(s.rest)))
	if !s.ok || length > len(s.rest) {
		s.ok = false
		return nil
	}
	text := s.rest[:length]
	s.rest = s.rest[length:]
	return text
}

func (s *scanner) entry() api.Entry {
	var e api.Entry
	e.Seq, e.Client, e.Num = s.number(0, 1<<40), s.number(0, 3), s.number(0, 1<<40)
	e.Op, e.Size, e.Sum = s.number(0, 5), s.number(0, 256), uint32(s.number(0, 1<<32-1))
	e.Key, e.Frag = string(s.text(16)), s.text(256)
	return e
}

// decoded returns the message whose encoding is b, and whether there is one.
func decoded(b []byte) (api.Msg, bool) {
	var m api.Msg
	if len(b) < 5 || !bytes.Equal(b, sealed(b[:len(b)-4])) || b[0] != 1 {
		return m, false
	}
	s := &scanner{rest: b[1 : len(b)-4], ok: true}
	m.Kind, m.From, m.To, m.Epoch = s.number(1, 15), s.number(-5, 15), s.number(-5, 15), s.number(0, 1<<40)
	m.E, m.Conf.Epoch = api.Errno(s.number(0, 13)), s.number(0, 1<<40)
	for count := s.number(0, 16); count > 0; count-- {
		m.Conf.Members = append(m.Conf.Members, s.number(0, 15))
	}
	m.Entry = s.entry()
	for count := s.number(0, 16); count > 0; count-- {
		m.Frags = append(m.Frags, api.Frag{Pos: s.number(0, 15), Data: s.text(256)})
	}
	for count := s.number(0, 4096); count > 0; count-- {
		m.Keys = append(m.Keys, string(s.text(16)))
	}
	for count := s.number(0, 16); count > 0; count-- {
		m.Sources = append(m.Sources, api.Source{Node: s.number(0, 15), Pos: s.number(0, 15)})
	}
	for count := s.number(0, 4096); count > 0; count-- {
		m.Entries = append(m.Entries, s.entry())
	}
	return m, s.ok && len(s.rest) == 0
}

// checkDecode checks that Decode finds in b what there is.
func checkDecode(t *testing.T, b []byte) {
	t.Helper()
	got, e := Decode(b)
	want, ok := decoded(b)
	if ok && (e != api.OK || !equal(got, want)) {
		t.Errorf("Decode(%x) = %#v, %d, want %#v", b, got, e, want)
	}
	if !ok && (e != api.ErrForm || !equal(got, api.Msg{})) {
		t.Errorf("Decode(%x) = %#v, %d, want ErrForm", b, got, e)
	}
}

// refused checks that there is no message with the encoding b.
func refused(t *testing.T, what string, b []byte) {
	t.Helper()
	if got, e := Decode(b); e != api.ErrForm || !equal(got, api.Msg{}) {
		t.Errorf("%s: Decode(%x) = %#v, %d, want ErrForm", what, b, got, e)
	}
}

// P12.1: Sound

func TestSound(t *testing.T) {
	for _, m := range []api.Msg{
		least(), sample(), fullest(),
		{Kind: 15, From: -5, To: -5},
		// Nothing holds the fields against each other or against the kind.
		{Kind: api.MsgAns, From: 3, To: 3, E: api.ErrOver, Epoch: 5, Conf: api.Conf{Epoch: 4, Members: []int{1, 1}}},
		{Kind: api.MsgBeat, Frags: []api.Frag{{Pos: 2}, {Pos: 2}, {Pos: 1}}, Sources: make([]api.Source, 16), Keys: []string{"b", "a", "a"}},
		{Kind: api.MsgReq, Entries: []api.Entry{{Seq: 2}, {Seq: 1}, {Seq: 1}}},
	} {
		if !Sound(m) {
			t.Errorf("Sound(%#v) = false", m)
		}
	}
	for n := -100; n <= 100; n++ {
		for name, c := range map[string]struct {
			m    api.Msg
			want bool
		}{
			"Kind": {api.Msg{Kind: n}, n >= 1 && n <= 15},
			"From": {api.Msg{Kind: 1, From: n}, n >= -5 && n <= 15},
			"To":   {api.Msg{Kind: 1, To: n}, n >= -5 && n <= 15},
			"E":    {api.Msg{Kind: 1, E: api.Errno(n)}, n >= 0 && n <= 13},
		} {
			if got := Sound(c.m); got != c.want {
				t.Errorf("Sound with the %s %d = %t", name, n, got)
			}
		}
	}
}

// The zero message is not sound: it has no kind.
func TestZeroMessage(t *testing.T) {
	if Sound(api.Msg{}) {
		t.Error("the zero message is sound")
	}
	if b, e := Encode(api.Msg{}); e != api.ErrForm || len(b) != 0 {
		t.Errorf("Encode of the zero message = %x, %d", b, e)
	}
	refused(t, "the zero message", encoding(api.Msg{}))
	if Same(api.Msg{}, api.Msg{}) || Same(api.Msg{}, least()) || Same(least(), api.Msg{}) {
		t.Error("Same of the zero message = true")
	}
}

// P12.1: all functions, with each field at and beyond its limits

func TestLimits(t *testing.T) {
	for _, f := range faults() {
		for _, m := range []api.Msg{least(), sample()} {
			f.apply(&m)
			b := encoding(m)
			if Sound(m) != f.sound {
				t.Errorf("%s: Sound(%#v) = %t", f.name, m, !f.sound)
			}
			if Same(m, m) != f.sound {
				t.Errorf("%s: Same(%#v) with itself = %t", f.name, m, !f.sound)
			}
			got, e := Encode(m)
			if f.sound && (e != api.OK || !bytes.Equal(got, b)) {
				t.Errorf("%s: Encode(%#v) = %x, %d, want %x", f.name, m, got, e, b)
			}
			if !f.sound && (e != api.ErrForm || len(got) != 0) {
				t.Errorf("%s: Encode = %d bytes, %d, want ErrForm", f.name, len(got), e)
			}
			back, e := Decode(b)
			if f.sound && (e != api.OK || !equal(back, m)) {
				t.Errorf("%s: Decode(%x) = %#v, %d, want %#v", f.name, b, back, e, m)
			}
			if !f.sound && (e != api.ErrForm || !equal(back, api.Msg{})) {
				t.Errorf("%s: Decode of a message that is not sound = %#v, %d", f.name, back, e)
			}
		}
	}
}

// P12.1: Encode

func TestByHand(t *testing.T) {
	for _, c := range []struct {
		m    api.Msg
		want string
	}{
		{api.Msg{Kind: api.MsgReq}, "\x01\x02\x00\x00\x00\x00\x00\x00" + "\x00\x00\x00\x00\x00\x00\x00\x00" + "\x00\x00\x00\x00"},
		{api.Msg{Kind: api.MsgTell, From: api.Master, To: -5, Epoch: 64, E: api.ErrBusy, Conf: api.Conf{Epoch: 63, Members: []int{5, 15}}},
			"\x01\x1e\x01\x09\x80\x01\x0e\x7e\x04\x0a\x1e" + "\x00\x00\x00\x00\x00\x00\x00\x00" + "\x00\x00\x00\x00"},
		{api.Msg{Kind: api.MsgFwd, From: 1, To: 2, Epoch: 3, Entry: api.Entry{Seq: 1, Client: 2, Num: 3, Op: 4, Key: "ab", Size: 5, Sum: 6, Frag: []byte("xyz")}},
			"\x01\x04\x02\x04\x06\x00\x00\x00" + "\x02\x04\x06\x08\x0a\x0c\x04ab\x06xyz" + "\x00\x00\x00\x00"},
		{api.Msg{Kind: api.MsgGather, From: 15, Frags: []api.Frag{{Pos: 7, Data: []byte("pq")}, {}}},
			"\x01\x08\x1e\x00\x00\x00\x00\x00" + "\x00\x00\x00\x00\x00\x00\x00\x00" + "\x04\x0e\x04pq\x00\x00" + "\x00\x00\x00"},
		{api.Msg{Kind: api.MsgAns, Keys: []string{"", "k"}},
			"\x01\x0a\x00\x00\x00\x00\x00\x00" + "\x00\x00\x00\x00\x00\x00\x00\x00" + "\x00\x04\x00\x02k\x00\x00"},
		{api.Msg{Kind: api.MsgStage, Sources: []api.Source{{Node: 4, Pos: 2}, {Pos: 1}}},
			"\x01\x12\x00\x00\x00\x00\x00\x00" + "\x00\x00\x00\x00\x00\x00\x00\x00" + "\x00\x00\x04\x08\x04\x00\x02\x00"},
		{api.Msg{Kind: api.MsgFrags, Entries: []api.Entry{{Sum: math.MaxUint32, Frag: []byte{0}}, {Client: 3, Key: "\xff"}}},
			"\x01\x16\x00\x00\x00\x00\x00\x00" + "\x00\x00\x00\x00\x00\x00\x00\x00" + "\x00\x00\x00\x04\x00\x00\x00\x00\x00\xfe\xff\xff\xff\x1f\x00\x02\x00\x00\x06\x00\x00\x00\x00\x02\xff\x00"},
	} {
		want := sealed([]byte(c.want))
		if got, e := Encode(c.m); e != api.OK || !bytes.Equal(got, want) {
			t.Errorf("Encode(%#v) = %x, %d, want %x", c.m, got, e, want)
		}
		if got, e := Decode(want); e != api.OK || !equal(got, c.m) {
			t.Errorf("Decode(%x) = %#v, %d, want %#v", want, got, e, c.m)
		}
	}
}

// The bytes of the checksum are written out here, so that their order does not
// depend on the library.
func TestChecksum(t *testing.T) {
	want := "\x01\x02\x00\x00\x00\x00\x00\x00\x00\x00\x00\x00\x00\x00\x00\x00\x00\x00\x00\x00" + "\x1e\x06\xa6\x3a"
	if got, e := Encode(least()); e != api.OK || string(got) != want {
		t.Errorf("Encode(least) = %x, %d, want %x", got, e, want)
	}
}

func TestFullestMessage(t *testing.T) {
	m := fullest()
	want := encoding(m)
	b, e := Encode(m)
	if e != api.OK || !bytes.Equal(b, want) {
		t.Fatalf("Encode of the fullest message: wrong, %d bytes, error %d", len(b), e)
	}
	if got, e := Decode(b); e != api.OK || !equal(got, m) || !Same(got, m) {
		t.Errorf("Decode of the fullest message: wrong, error %d", e)
	}
	for i, spoil := range []func(m *api.Msg){
		func(m *api.Msg) { m.Conf.Members = append(m.Conf.Members, 0) },
		func(m *api.Msg) { m.Frags = append(m.Frags, api.Frag{}) },
		func(m *api.Msg) { m.Keys = append(m.Keys, "") },
		func(m *api.Msg) { m.Sources = append(m.Sources, api.Source{}) },
		func(m *api.Msg) { m.Entries = append(m.Entries, api.Entry{}) },
		func(m *api.Msg) { m.Keys[4095] = "0123456789abcdefg" },
		func(m *api.Msg) { m.Entries[4095].Client = 4 },
	} {
		m := fullest()
		spoil(&m)
		if b, e := Encode(m); e != api.ErrForm || len(b) != 0 || Sound(m) || Same(m, m) {
			t.Errorf("%d: Encode of the fullest message with a fault = %d bytes, %d", i, len(b), e)
		}
		if got, e := Decode(encoding(m)); e != api.ErrForm || !equal(got, api.Msg{}) {
			t.Errorf("%d: Decode of the fullest message with a fault: error %d", i, e)
		}
	}
}

// Nil and empty slices are written alike.
func TestEmptyLists(t *testing.T) {
	m := api.Msg{Kind: 1, Frags: []api.Frag{}, Keys: []string{}, Conf: api.Conf{Members: []int{}}, Sources: []api.Source{}, Entries: []api.Entry{}}
	m.Entry.Frag = []byte{}
	if b, e := Encode(m); e != api.OK || !bytes.Equal(b, encoding(least())) {
		t.Errorf("Encode with empty lists = %x, %d", b, e)
	}
	if !Same(m, least()) || !Same(least(), m) {
		t.Error("Same of nil and empty lists = false")
	}
	withEmpty := api.Msg{Kind: 1, Frags: []api.Frag{{Data: []byte{}}}, Entries: []api.Entry{{Frag: []byte{}}}}
	withNil := api.Msg{Kind: 1, Frags: []api.Frag{{}}, Entries: []api.Entry{{}}}
	if !Same(withEmpty, withNil) {
		t.Error("Same of nil and empty fragments = false")
	}
}

// spacious is the sample with values in the spare capacity of each slice; the
// function returned checks that nothing of it was changed.
func spacious() (api.Msg, func() bool) {
	m := sample()
	members := append(m.Conf.Members, 77, 77)
	frags := append(m.Frags, api.Frag{Pos: 77})
	keys := append(m.Keys, "77")
	sources := append(m.Sources, api.Source{Node: 77})
	entries := append(m.Entries, api.Entry{Seq: 77})
	data := append(frags[0].Data, 77)
	frag := append(m.Entry.Frag, 77)
	m.Conf.Members, m.Frags, m.Keys, m.Sources, m.Entries = members[:4], frags[:3], keys[:4], sources[:2], entries[:3]
	m.Frags[0].Data, m.Entry.Frag = data[:2], frag[:4]
	return m, func() bool {
		return equal(m, sample()) && slices.Equal(members[4:], []int{77, 77}) && frags[3].Pos == 77 && keys[4] == "77" &&
			sources[2].Node == 77 && entries[3].Seq == 77 && data[2] == 77 && frag[4] == 77
	}
}

func TestEncodeMemory(t *testing.T) {
	m, unchanged := spacious()
	want := encoding(m)
	first, _ := Encode(m)
	second, _ := Encode(m)
	Sound(m)
	Same(m, m)
	whole := first[:cap(first)]
	for i := range whole {
		whole[i] = 55
	}
	if !bytes.Equal(second, want) {
		t.Error("two results of Encode share memory")
	}
	if !unchanged() {
		t.Errorf("a message was changed: %#v", m)
	}
	m.Entry.Frag[0]++
	m.Frags[0].Data[0]++
	m.Entries[0].Frag[0]++
	m.Conf.Members[0]++
	m.Sources[0].Node++
	if !bytes.Equal(second, want) {
		t.Error("a result of Encode shares memory with the message")
	}
}

// P12.1: Decode

func TestDecodeCut(t *testing.T) {
	for _, m := range []api.Msg{least(), sample()} {
		b := unsealed(m)
		whole := sealed(b)
		for cut := range whole {
			refused(t, "cut", whole[:cut])
			refused(t, "cut at the front", whole[cut+1:])
		}
		for cut := range b {
			refused(t, "cut and sealed", sealed(b[:cut]))
			refused(t, "cut at the front and sealed", sealed(b[cut+1:]))
		}
		for more := range 256 {
			refused(t, "a byte behind the checksum", append(slices.Clone(whole), byte(more)))
			refused(t, "a byte ahead of the checksum", sealed(append(slices.Clone(b), byte(more))))
			refused(t, "a byte ahead of all", append([]byte{byte(more)}, whole...))
			refused(t, "a byte ahead of all, sealed", sealed(append([]byte{byte(more)}, b...)))
		}
		refused(t, "sealed twice", sealed(whole))
		refused(t, "no checksum", b)
	}
	for _, b := range [][]byte{nil, {}, {1}, {0, 0, 0, 0}, make([]byte, 5), sealed(nil), sealed([]byte{1}), sealed([]byte{0}), make([]byte, 1000)} {
		refused(t, "no fields", b)
	}
}

// Only the byte 1 may be the first one.
func TestDecodeFirstByte(t *testing.T) {
	for _, m := range []api.Msg{least(), sample()} {
		b := unsealed(m)
		for x := range 256 {
			b[0] = byte(x)
			checkDecode(t, sealed(b))
		}
	}
}

// All bits of the checksum are compared, and in the right order.
func TestDecodeChecksum(t *testing.T) {
	for _, m := range []api.Msg{least(), sample()} {
		b := encoding(m)
		size := len(b) - 4
		for bit := range 32 {
			changed := slices.Clone(b)
			changed[size+bit/8] ^= 1 << (bit % 8)
			refused(t, "a wrong checksum", changed)
		}
		reversed := slices.Clone(b)
		slices.Reverse(reversed[size:])
		refused(t, "a reversed checksum", reversed)
		refused(t, "a checksum without the first byte", binary.BigEndian.AppendUint32(slices.Clone(b[:size]), crc32.ChecksumIEEE(b[1:size])))
		refused(t, "no checksum but zeros", append(slices.Clone(b[:size]), 0, 0, 0, 0))
		refused(t, "another checksum", binary.BigEndian.AppendUint32(slices.Clone(b[:size]), crc32.Checksum(b[:size], crc32.MakeTable(crc32.Castagnoli))))
	}
}

// Each byte of an encoding is replaced, left out and doubled, with and without
// the right checksum.
func TestDecodeChanged(t *testing.T) {
	for _, m := range []api.Msg{least(), sample()} {
		b := unsealed(m)
		check := encoding(m)[len(b):]
		for i := range b {
			for x := range 256 {
				changed := slices.Clone(b)
				changed[i] = byte(x)
				checkDecode(t, sealed(changed))
				checkDecode(t, slices.Concat(changed, check))
				checkDecode(t, sealed(slices.Insert(slices.Clone(b), i, byte(x))))
			}
			checkDecode(t, sealed(slices.Delete(slices.Clone(b), i, i+1)))
		}
	}
}

// Each number of an encoding is written with a byte more than necessary.
func TestDecodeLongNumbers(t *testing.T) {
	b := unsealed(least())
	for i, x := range b {
		refused(t, "a long number", sealed(slices.Concat(b[:i], []byte{x + 128, 0}, b[i+1:])))
	}
	m := sample()
	m.Keys, m.Frags, m.Entry.Key, m.Entry.Frag, m.Entries = nil, nil, "", nil, make([]api.Entry, 2)
	b = unsealed(m)
	for i, x := range b {
		if x < 128 {
			refused(t, "a long number", sealed(slices.Concat(b[:i], []byte{x + 128, 0}, b[i+1:])))
		}
	}
}

// wrongNumber is an encoding of the shortest message, in which the number at a
// place is another one.
func wrongNumber(place int, n int64) []byte {
	b := unsealed(least())
	return sealed(slices.Concat(b[:place], binary.AppendVarint(nil, n), b[place+1:]))
}

// Numbers that no message holds, at each place, also such that their lowest
// bits would be right.
func TestDecodeWrongNumbers(t *testing.T) {
	for place := 1; place < len(unsealed(least())); place++ {
		for _, n := range []int64{-1, -2, -5, -6, 1, 2, 13, 14, 15, 16, 17, 256, 257, 4096, 4097, 1 << 31, 1<<32 - 1, 1 << 32, 1<<32 + 1, -1 << 32, 1 << 40, 1<<40 + 1, 1 << 62, math.MaxInt64, math.MinInt64} {
			checkDecode(t, wrongNumber(place, n))
		}
	}
}

// Numbers of items that are too large or wrong, with bytes behind them.
func TestDecodeWrongCounts(t *testing.T) {
	b := unsealed(least())
	for _, place := range []int{7, 14, 15, 16, 17, 18, 19} {
		for _, count := range []int64{-1, -2, math.MinInt64, 1, 2, 16, 17, 18, 4096, 4097, 1 << 31, 1 << 40, math.MaxInt64} {
			for _, behind := range []int{0, 1, 2, 12, 13, 16, 17, 34, 100, 4096, 8192} {
				front := binary.AppendVarint(slices.Clone(b[:place]), count)
				checkDecode(t, sealed(append(front, make([]byte, behind)...)))
			}
		}
	}
}

func TestDecodeShortStrings(t *testing.T) {
	for _, b := range [][]byte{nil, {1}, unsealed(least())[:16], unsealed(least())[:19]} {
		for i := range 256 {
			checkDecode(t, sealed(append(slices.Clone(b), byte(i))))
			for _, j := range []byte{0, 1, 2, 3, 30, 31, 32, 33, 34, 63, 64, 127, 128, 129, 255} {
				checkDecode(t, sealed(append(slices.Clone(b), byte(i), j)))
				checkDecode(t, sealed(append(slices.Clone(b), byte(i), j, 0, 0)))
			}
		}
	}
}

func TestDecodeMemory(t *testing.T) {
	m := sample()
	m.Entries[1].Frag = []byte{1, 2, 3}
	want := encoding(m)
	whole := append(slices.Clone(want), 77, 77, 77)
	b := whole[:len(want)]
	first, _ := Decode(b)
	second, _ := Decode(b)
	if !bytes.Equal(whole, append(slices.Clone(want), 77, 77, 77)) {
		t.Error("Decode changed its argument")
	}
	clear(whole)
	if !equal(first, m) || !equal(second, m) {
		t.Error("a result of Decode shares memory with its argument")
	}
	fill := func(b []byte) {
		for i := range b[:cap(b)] {
			b[:cap(b)][i] = 55
		}
	}
	fill(first.Entry.Frag)
	fill(first.Entries[0].Frag)
	fill(first.Frags[0].Data)
	if !equalEntries(first.Entries[1], m.Entries[1]) || string(first.Frags[2].Data) != "xyz" {
		t.Error("two slices of a message share memory")
	}
	clear(first.Conf.Members[:cap(first.Conf.Members)])
	clear(first.Keys[:cap(first.Keys)])
	clear(first.Sources[:cap(first.Sources)])
	clear(first.Frags[:cap(first.Frags)])
	clear(first.Entries[:cap(first.Entries)])
	if !equal(second, m) {
		t.Error("two results of Decode share memory")
	}
}

// P12.1: Same

func TestSame(t *testing.T) {
	for _, m := range []api.Msg{least(), sample(), fullest()} {
		copied, _ := decoded(encoding(m))
		if !Same(m, m) || !Same(m, copied) || !Same(copied, m) {
			t.Errorf("Same(%#v) with itself = false", m)
		}
	}
	if Same(least(), sample()) || Same(sample(), least()) {
		t.Error("Same of different messages = true")
	}
}

// differences returns changes after which a message is sound, and another.
func differences() []func(*api.Msg) {
	return []func(*api.Msg){
		func(m *api.Msg) { m.Kind++ }, func(m *api.Msg) { m.From++ }, func(m *api.Msg) { m.To-- },
		func(m *api.Msg) { m.Epoch++ }, func(m *api.Msg) { m.Epoch += 1 << 32 }, func(m *api.Msg) { m.E++ },
		func(m *api.Msg) { m.Conf.Epoch++ },
		func(m *api.Msg) { m.Conf.Members = append(slices.Clone(m.Conf.Members), 0) },
		func(m *api.Msg) { m.Conf.Members = append([]int{1}, m.Conf.Members...) },
		func(m *api.Msg) { m.Entry.Seq++ }, func(m *api.Msg) { m.Entry.Client ^= 1 }, func(m *api.Msg) { m.Entry.Num++ },
		func(m *api.Msg) { m.Entry.Op++ }, func(m *api.Msg) { m.Entry.Key += "x" }, func(m *api.Msg) { m.Entry.Size++ },
		func(m *api.Msg) { m.Entry.Sum ^= 1 << 31 }, func(m *api.Msg) { m.Entry.Frag = append(slices.Clone(m.Entry.Frag), 0) },
		func(m *api.Msg) { m.Frags = append(slices.Clone(m.Frags), api.Frag{}) },
		func(m *api.Msg) { m.Frags = append([]api.Frag{{Pos: 1}}, m.Frags...) },
		func(m *api.Msg) { m.Keys = append(slices.Clone(m.Keys), "") },
		func(m *api.Msg) { m.Keys = append([]string{"k"}, m.Keys...) },
		func(m *api.Msg) { m.Sources = append(slices.Clone(m.Sources), api.Source{}) },
		func(m *api.Msg) { m.Sources = append([]api.Source{{Node: 1}}, m.Sources...) },
		func(m *api.Msg) { m.Entries = append(slices.Clone(m.Entries), api.Entry{}) },
		func(m *api.Msg) { m.Entries = append([]api.Entry{{Num: 1}}, m.Entries...) },
	}
}

// innerDifferences returns changes to the items of the sample's lists.
func innerDifferences() []func(*api.Msg) {
	return []func(*api.Msg){
		func(m *api.Msg) { m.Conf.Members[2]-- }, func(m *api.Msg) { slices.Reverse(m.Conf.Members[:2]) },
		func(m *api.Msg) { m.Entry.Frag[3] ^= 1 },
		func(m *api.Msg) { m.Frags[1].Pos++ }, func(m *api.Msg) { m.Frags[2].Data[2] ^= 128 }, func(m *api.Msg) { m.Frags[1].Data = []byte{0} }, func(m *api.Msg) { slices.Reverse(m.Frags) },
		func(m *api.Msg) { m.Keys[3] = "on" }, func(m *api.Msg) { m.Keys[1] = "\x00" }, func(m *api.Msg) { m.Keys[0], m.Keys[1] = m.Keys[1], m.Keys[0] },
		func(m *api.Msg) { m.Sources[1].Node++ }, func(m *api.Msg) { m.Sources[1].Pos++ }, func(m *api.Msg) { slices.Reverse(m.Sources) },
		func(m *api.Msg) { m.Sources[0].Node, m.Sources[0].Pos = m.Sources[0].Pos, m.Sources[0].Node },
		func(m *api.Msg) { m.Entries[2].Seq++ }, func(m *api.Msg) { m.Entries[2].Client++ }, func(m *api.Msg) { m.Entries[2].Num++ }, func(m *api.Msg) { m.Entries[2].Op++ },
		func(m *api.Msg) { m.Entries[2].Key = "k" }, func(m *api.Msg) { m.Entries[2].Size++ }, func(m *api.Msg) { m.Entries[2].Sum++ }, func(m *api.Msg) { m.Entries[2].Frag = []byte{0} },
		func(m *api.Msg) { m.Entries[0].Frag[0] ^= 1 }, func(m *api.Msg) { slices.Reverse(m.Entries) },
	}
}

func TestSameDifferences(t *testing.T) {
	check := func(i int, m, other api.Msg) {
		t.Helper()
		if !Sound(other) || Same(m, other) || Same(other, m) || !Same(other, other) {
			t.Errorf("change %d: Same(%#v, %#v) = true, or not sound", i, m, other)
		}
	}
	for i, change := range differences() {
		for _, m := range []api.Msg{least(), sample()} {
			other := m
			change(&other)
			check(i, m, other)
		}
	}
	for i, change := range innerDifferences() {
		other := sample()
		change(&other)
		check(i, sample(), other)
	}
}

// A message that is not sound has no encoding, so that it is not the same as
// any, not even as itself.
func TestSameUnsound(t *testing.T) {
	for _, spoil := range []func(*api.Msg){
		func(m *api.Msg) { m.Kind = 0 },
		func(m *api.Msg) { m.From = -6 },
		func(m *api.Msg) { m.Keys = make([]string, 4097) },
		func(m *api.Msg) { m.Entry.Seq = -1 },
	} {
		m := sample()
		spoil(&m)
		if Same(m, m) || Same(m, sample()) || Same(sample(), m) || Same(m, api.Msg{}) || Same(api.Msg{}, m) {
			t.Errorf("Same(%#v) = true", m)
		}
	}
}

func FuzzDecode(f *testing.F) {
	for _, m := range []api.Msg{least(), sample()} {
		f.Add(unsealed(m))
	}
	f.Fuzz(func(t *testing.T, b []byte) {
		checkDecode(t, b)
		checkDecode(t, sealed(b))
		if m, e := Decode(sealed(b)); e == api.OK {
			if again, e := Encode(m); e != api.OK || !bytes.Equal(again, sealed(b)) {
				t.Errorf("Encode(Decode(%x)) = %x, %d", sealed(b), again, e)
			}
		}
	})
}
