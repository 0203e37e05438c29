package book

import (
	"bytes"
	"encoding/binary"
	"hash/crc32"
	"math"
	"slices"
	"strings"
	"testing"

	"deadeye/api"
	"deadeye/disk"
	"deadeye/entry"
)

// framed returns the frame of code, whether code is an encoding or not.
func framed(code string) string {
	b := binary.BigEndian.AppendUint32(nil, uint32(len(code)))
	b = binary.BigEndian.AppendUint32(b, crc32.ChecksumIEEE(append(slices.Clone(b), code...)))
	return string(b) + code
}

// parsed returns the encodings in the valid part of content, and its size.
func parsed(content string) (codes []string, size int) {
	for {
		rest := content[size:]
		if len(rest) < 8 {
			return codes, size
		}
		length := uint64(binary.BigEndian.Uint32([]byte(rest[:4])))
		if length > uint64(len(rest)-8) {
			return codes, size
		}
		code := rest[8 : 8+length]
		if _, e := entry.Decode([]byte(code)); e != api.OK || rest[:8+length] != framed(code) {
			return codes, size
		}
		codes = append(codes, code)
		size += 8 + int(length)
	}
}

func encoded(t testing.TB, r api.Rec) string {
	t.Helper()
	code, e := entry.Encode(r)
	if e != api.OK {
		t.Fatalf("Encode: %d", e)
	}
	return string(code)
}

// contentOf returns the frames of list.
func contentOf(t testing.TB, list ...api.Rec) string {
	t.Helper()
	content := ""
	for _, r := range list {
		content += framed(encoded(t, r))
	}
	return content
}

// short returns a record that tells n, and whose frame has 14 bytes for an n
// below 64.
func short(n int) api.Rec { return api.Rec{Kind: api.RecSeal, Last: n} }

const shortSize = 14

// long returns a record that uses all fields.
func long(n int) api.Rec {
	put := api.Entry{Seq: n, Client: 3, Num: 70, Op: api.Put, Key: "key\x00\xff", Size: 200, Sum: 0xfedcba98, Frag: []byte{9, 0, 255, 128}}
	return api.Rec{Kind: api.RecStage, Conf: api.Conf{Epoch: 300, Members: []int{7, 0, 15}}, Pos: 2, Last: n, Entries: []api.Entry{put, {Seq: n + 1, Op: api.Del}}}
}

// fullest returns the record with the longest encoding.
func fullest() api.Rec {
	r := api.Rec{Kind: 4, Conf: api.Conf{Epoch: 1 << 40, Members: slices.Repeat([]int{15}, 16)}, Pos: 15, Last: 1 << 40}
	for i := range 4096 {
		e := api.Entry{Seq: 1 << 40, Client: 3, Num: 1 << 40, Op: 5, Key: strings.Repeat("\xff", 16), Size: 256, Sum: math.MaxUint32 - uint32(i)}
		e.Frag = bytes.Repeat([]byte{byte(i)}, 256)
		r.Entries = append(r.Entries, e)
	}
	return r
}

// unsound returns records that have no encoding.
func unsound() []api.Rec {
	return []api.Rec{
		{}, {Kind: 5}, {Kind: -1}, {Kind: math.MaxInt}, {Kind: math.MinInt},
		{Kind: 1, Pos: 16}, {Kind: 1, Pos: -1}, {Kind: 1, Last: -1}, {Kind: 1, Last: 1<<40 + 1},
		{Kind: 1, Conf: api.Conf{Epoch: -1}}, {Kind: 1, Conf: api.Conf{Members: []int{16}}}, {Kind: 1, Conf: api.Conf{Members: make([]int, 17)}},
		{Kind: 1, Entries: make([]api.Entry, 4097)}, {Kind: 1, Entries: []api.Entry{{}, {Seq: -1}}}, {Kind: 1, Entries: []api.Entry{{Key: strings.Repeat("k", 17)}}},
	}
}

func checkError(t *testing.T, got, want api.Errno) {
	t.Helper()
	if got != want {
		t.Errorf("the error is %d, want %d", got, want)
	}
}

// checkContent checks what d holds; its power is on.
func checkContent(t *testing.T, d *disk.Disk, want string) {
	t.Helper()
	if b, e := d.Read(); e != api.OK || string(b) != want {
		t.Errorf("the disk holds %x, %d, want %x", b, e, want)
	}
}

// checkRecords checks the records of b.
func checkRecords(t *testing.T, b *Book, want ...api.Rec) {
	t.Helper()
	list := b.Records()
	if len(list) != len(want) {
		t.Errorf("%d records, want %d", len(list), len(want))
		return
	}
	for i, r := range list {
		if encoded(t, r) != encoded(t, want[i]) {
			t.Errorf("record %d is %#v, want %#v", i, r, want[i])
		}
	}
}

// checkBook checks the records of b and that d holds just them.
func checkBook(t *testing.T, b *Book, d *disk.Disk, want ...api.Rec) {
	t.Helper()
	checkRecords(t, b, want...)
	checkContent(t, d, contentOf(t, want...))
}

// filled returns a disk of room bytes with a content.
func filled(t *testing.T, room int, content string) *disk.Disk {
	t.Helper()
	d := disk.New(room)
	checkError(t, d.Replace([]byte(content)), api.OK)
	return d
}

func opened(t *testing.T, d *disk.Disk) *Book {
	t.Helper()
	b, e := Open(d)
	if e != api.OK || b == nil {
		t.Fatalf("Open = %v, %d", b, e)
	}
	return b
}

// checkOpen checks that Open finds in content what there is, and removes the
// rest.
func checkOpen(t *testing.T, content string) {
	t.Helper()
	d := filled(t, len(content), content)
	b, e := Open(d)
	if e != api.OK || b == nil {
		t.Errorf("Open(%x) = %v, %d", content, b, e)
		return
	}
	codes, size := parsed(content)
	list := b.Records()
	if len(list) != len(codes) {
		t.Errorf("Open(%x): %d records, want %d", content, len(list), len(codes))
		return
	}
	for i, r := range list {
		if encoded(t, r) != codes[i] {
			t.Errorf("Open(%x): record %d is %#v", content, i, r)
		}
	}
	checkContent(t, d, content[:size])
}

// Terms: the frame

func TestFrameByHand(t *testing.T) {
	const want = "\x00\x00\x00\x06\xcd\x92\xfc\x47\x02\x00\x00\x00\x00\x00"
	d := disk.New(100)
	b := opened(t, d)
	checkError(t, b.Append(api.Rec{Kind: api.RecEntry}), api.OK)
	checkContent(t, d, want)
	checkError(t, b.Renew([]api.Rec{{Kind: api.RecEntry}, {Kind: api.RecEntry}}), api.OK)
	checkContent(t, d, want+want)
	checkRecords(t, opened(t, d), api.Rec{Kind: api.RecEntry}, api.Rec{Kind: api.RecEntry})
}

// sized returns a record whose encoding has size bytes.
func sized(t *testing.T, size int) api.Rec {
	t.Helper()
	r := api.Rec{Kind: api.RecEntry}
	for len(encoded(t, r))+300 <= size {
		r.Entries = append(r.Entries, api.Entry{Frag: make([]byte, 250)})
	}
	r.Entries = append(r.Entries, api.Entry{})
	last := &r.Entries[len(r.Entries)-1]
	for len(encoded(t, r)) < size {
		last.Frag = append(last.Frag, 1)
	}
	if len(encoded(t, r)) != size {
		t.Fatalf("the test has no record of %d bytes", size)
	}
	return r
}

// Lengths from 256 and from 65536 on take more bytes of their word.
func TestFrameSizes(t *testing.T) {
	for _, size := range []int{127, 128, 129, 255, 256, 257, 511, 512, 65535, 65536, 65537, 70000} {
		r := sized(t, size)
		d := disk.New(api.MaxRoom)
		b := opened(t, d)
		checkError(t, b.Append(r), api.OK)
		checkError(t, b.Append(short(1)), api.OK)
		content, _ := d.Read()
		if string(content) != contentOf(t, r, short(1)) || len(content) != 8+size+shortSize {
			t.Errorf("an encoding of %d bytes: the content is wrong", size)
		}
		checkRecords(t, opened(t, d), r, short(1))
	}
}

func TestFullestRecord(t *testing.T) {
	r := fullest()
	size := len(contentOf(t, r))
	d := disk.New(2*size + shortSize)
	b := opened(t, d)
	checkError(t, b.Append(r), api.OK)
	checkError(t, b.Append(short(1)), api.OK)
	checkError(t, b.Append(r), api.OK)
	checkError(t, b.Append(short(2)), api.ErrFull)
	checkRecords(t, b, r, short(1), r)
	checkRecords(t, opened(t, d), r, short(1), r)
	checkError(t, b.Renew([]api.Rec{r}), api.OK)
	checkRecords(t, opened(t, d), r)
}

// P9.1: Open

func TestOpenEmpty(t *testing.T) {
	for _, d := range []*disk.Disk{disk.New(0), disk.New(100), new(disk.Disk)} {
		b := opened(t, d)
		checkBook(t, b, d)
		if len(b.Records()) != 0 {
			t.Error("an empty disk has records")
		}
	}
}

func TestOpenErrors(t *testing.T) {
	if b, e := Open(nil); b != nil || e != api.ErrArg {
		t.Errorf("Open(nil) = %v, %d", b, e)
	}
	for _, content := range []string{"", "rubbish", contentOf(t, short(1)), contentOf(t, short(1)) + "x"} {
		d := filled(t, 100, content)
		d.Crash()
		d.Tear(100)
		if b, e := Open(d); b != nil || e != api.ErrDown || d.Up() {
			t.Errorf("Open of a disk without power = %v, %d", b, e)
		}
		d.Start()
		checkContent(t, d, content)
	}
}

func TestOpenValid(t *testing.T) {
	list := []api.Rec{long(1), short(2), {Kind: api.RecActivate}, long(1000000), short(2)}
	for count := range len(list) + 1 {
		content := contentOf(t, list[:count]...)
		d := filled(t, len(content), content)
		checkBook(t, opened(t, d), d, list[:count]...)
	}
}

// The content is cut at every place, and has every byte behind it.
func TestOpenCut(t *testing.T) {
	content := contentOf(t, short(1), long(2), short(3))
	for cut := range len(content) + 1 {
		checkOpen(t, content[:cut])
		for _, more := range []string{"\x00", "\x00\x00\x00", "\x00\x00\x00\x00\x00\x00\x00\x00", "\xff\xff\xff\xff\xff\xff\xff\xff", "rubbish, and more of it"} {
			checkOpen(t, content[:cut]+more)
		}
	}
	for x := range 256 {
		checkOpen(t, contentOf(t, short(1))+string([]byte{byte(x)}))
	}
}

// Each byte is replaced, left out and doubled.
func TestOpenChanged(t *testing.T) {
	content := contentOf(t, short(1), short(2), long(3), short(4))
	for i := range content {
		for x := range 256 {
			changed := content[:i] + string([]byte{byte(x)}) + content[i+1:]
			checkOpen(t, changed)
			if byte(x) != content[i] {
				if _, size := parsed(changed); size > i {
					t.Fatalf("the test takes byte %d for unimportant", i)
				}
			}
		}
		checkOpen(t, content[:i]+content[i+1:])
		checkOpen(t, content[:i]+content[i:i+1]+content[i:])
	}
}

// What is behind a torn part is torn as well, though it is a frame.
func TestOpenFrameBehindTorn(t *testing.T) {
	one, two := contentOf(t, short(1)), contentOf(t, long(2))
	for _, torn := range []string{"x", two[:1], two[:8], two[:20], one[:3], one[:9], "\x00\x00\x00\x00\x00\x00\x00\x00"} {
		d := filled(t, 1000, one+torn+one+two)
		checkBook(t, opened(t, d), d, short(1))
	}
	d := filled(t, 1000, "x"+one)
	checkBook(t, opened(t, d), d)
	// But a torn part may be all of a frame with the first byte of the next.
	d = filled(t, 1000, one[:shortSize-1]+one)
	checkBook(t, opened(t, d), d, short(1))
}

// A checksum may be right where there is no encoding of a sound record.
func TestOpenRightChecksum(t *testing.T) {
	code := encoded(t, short(1))
	for _, wrong := range []string{
		"", "\x00", code[:len(code)-1], code + "\x00", code + code, "x" + code,
		"\x00" + code[1:], "\x0a" + code[1:], "\x01" + code[1:],
		"\x84\x00" + code[1:],
		"\x02\x00\x20\x00\x00\x00", "\x02\x01\x00\x00\x00\x00", "\x02\x00\x00\x00\x22\x00",
		strings.Repeat("x", 300),
	} {
		for _, before := range [][]api.Rec{{}, {long(7)}, {long(7), short(8)}} {
			content := contentOf(t, before...)
			for _, behind := range []string{"", contentOf(t, short(9))} {
				d := filled(t, 1000, content+framed(wrong)+behind)
				checkBook(t, opened(t, d), d, before...)
			}
		}
	}
}

// Each of these is a frame but for one thing.
func TestOpenWrongFrames(t *testing.T) {
	code := encoded(t, short(1))
	number := func(n int) string { return string(binary.BigEndian.AppendUint32(nil, uint32(n))) }
	reversed := func(n int) string { return string(binary.LittleEndian.AppendUint32(nil, uint32(n))) }
	check := func(s string) int { return int(crc32.ChecksumIEEE([]byte(s))) }
	length := number(len(code))
	right := length + number(check(length+code)) + code
	if right != framed(code) {
		t.Fatal("the test does not know frames")
	}
	castagnoli := int(crc32.Checksum([]byte(length+code), crc32.MakeTable(crc32.Castagnoli)))
	for i, wrong := range []string{
		length + number(check(code)) + code,
		length + number(check(length)) + code,
		length + number(check(code+length)) + code,
		length + reversed(check(length+code)) + code,
		length + number(^check(length+code)) + code,
		length + number(castagnoli) + code,
		length + number(0) + code,
		reversed(len(code)) + number(check(reversed(len(code))+code)) + code,
		number(check(length+code)) + length + code,
		length + code + number(check(length+code)),
		code,
		number(len(code)+4) + number(check(number(len(code)+4)+code)) + code,
		number(len(code)-1) + number(check(number(len(code)-1)+code)) + code,
		number(len(code)+1) + number(check(number(len(code)+1)+code)) + code,
	} {
		for _, before := range [][]api.Rec{{}, {long(7)}} {
			d := filled(t, 1000, contentOf(t, before...)+wrong)
			b := opened(t, d)
			if len(b.Records()) != len(before) {
				t.Errorf("case %d is taken for a frame", i)
			}
			checkBook(t, b, d, before...)
		}
	}
}

func TestOpenExtremeLengths(t *testing.T) {
	for _, n := range []uint32{7, 8, 9, 1<<7 - 1, 1 << 7, 1<<8 - 1, 1 << 8, 1<<15 + 1, 1 << 16, 1 << 24, 1<<31 - 9, 1<<31 - 8, 1<<31 - 1, 1 << 31, 1<<32 - 9, 1<<32 - 8, 1<<32 - 7, 1<<32 - 2, 1<<32 - 1} {
		for _, behind := range []string{"", "1234", "12345678", "123456789", strings.Repeat("\x00", 300)} {
			content := string(binary.BigEndian.AppendUint32(nil, n)) + behind
			checkOpen(t, content)
			checkOpen(t, contentOf(t, short(1))+content)
		}
	}
}

// Where nothing is torn, nothing is replaced, so a Tear still waits.
func TestOpenWithoutReplace(t *testing.T) {
	for _, list := range [][]api.Rec{{}, {short(1)}, {long(1), short(2)}} {
		d := filled(t, 1000, contentOf(t, list...))
		d.Tear(3)
		b := opened(t, d)
		checkBook(t, b, d, list...)
		checkError(t, b.Append(short(9)), api.ErrDown)
		d.Start()
		checkContent(t, d, contentOf(t, list...)+contentOf(t, short(9))[:3])
	}
}

// Open's own Replace may be torn.
func TestOpenTorn(t *testing.T) {
	for _, list := range [][]api.Rec{{}, {short(1)}, {short(1), long(2)}} {
		content := contentOf(t, list...)
		for _, torn := range []string{"x", contentOf(t, short(5))[:13], contentOf(t, long(5))[:9] + contentOf(t, short(6))} {
			for n := -1; n <= len(content)+1; n++ {
				d := filled(t, 1000, content+torn)
				d.Tear(n)
				if b, e := Open(d); b != nil || e != api.ErrDown || d.Up() {
					t.Errorf("Open with its Replace torn = %v, %d", b, e)
				}
				d.Start()
				left := content + torn
				if max(n, 0) >= len(content) {
					left = content
				}
				checkContent(t, d, left)
				checkBook(t, opened(t, d), d, list...)
			}
		}
	}
}

// P9.1: Append

func TestAppend(t *testing.T) {
	d := disk.New(10000)
	b := opened(t, d)
	var list []api.Rec
	for n := range 60 {
		r := short(n)
		if n%3 == 0 {
			r = long(n)
		}
		checkError(t, b.Append(r), api.OK)
		list = append(list, r)
		checkBook(t, b, d, list...)
	}
	checkBook(t, opened(t, d), d, list...)
	later := opened(t, d)
	checkError(t, later.Append(short(0)), api.OK)
	checkBook(t, later, d, append(list, short(0))...)
}

func TestAppendUnsound(t *testing.T) {
	d := filled(t, 1000, contentOf(t, long(1), short(2)))
	b := opened(t, d)
	d.Tear(5)
	for _, r := range unsound() {
		checkError(t, b.Append(r), api.ErrForm)
		checkBook(t, b, d, long(1), short(2))
	}
	d.Start()
	checkError(t, b.Append(short(3)), api.OK)
	checkBook(t, b, d, long(1), short(2), short(3))
}

func TestAppendFull(t *testing.T) {
	d := disk.New(2*shortSize + shortSize - 1)
	b := opened(t, d)
	checkError(t, b.Append(long(1)), api.ErrFull)
	checkBook(t, b, d)
	checkError(t, b.Append(short(1)), api.OK)
	checkError(t, b.Append(short(2)), api.OK)
	d.Tear(0)
	for range 3 {
		checkError(t, b.Append(short(3)), api.ErrFull)
		checkBook(t, b, d, short(1), short(2))
	}
	checkRecords(t, opened(t, d), short(1), short(2))
	checkError(t, opened(t, disk.New(0)).Append(short(1)), api.ErrFull)
	exact := disk.New(shortSize)
	checkError(t, opened(t, exact).Append(short(1)), api.OK)
	checkBook(t, opened(t, exact), exact, short(1))
}

// ErrForm is named ahead of the disk's errors, and of these ErrDown ahead of
// ErrFull.
func TestErrorsInOrder(t *testing.T) {
	d := disk.New(shortSize)
	b := opened(t, d)
	checkError(t, b.Append(short(1)), api.OK)
	d.Crash()
	for _, r := range unsound() {
		checkError(t, b.Append(r), api.ErrForm)
		checkError(t, b.Renew([]api.Rec{long(1), r}), api.ErrForm)
	}
	checkError(t, b.Append(short(2)), api.ErrDown)
	checkError(t, b.Renew([]api.Rec{long(2)}), api.ErrDown)
	checkRecords(t, b, short(1))
	d.Start()
	for _, r := range unsound() {
		checkError(t, b.Append(r), api.ErrForm)
		checkError(t, b.Renew([]api.Rec{long(1), r}), api.ErrForm)
	}
	checkError(t, b.Append(short(2)), api.ErrFull)
	checkError(t, b.Renew([]api.Rec{long(2)}), api.ErrFull)
	checkBook(t, b, d, short(1))
}

// The records are there while the power is off, and the book goes on
// afterwards.
func TestPower(t *testing.T) {
	d := filled(t, 1000, contentOf(t, long(1)))
	b := opened(t, d)
	d.Crash()
	for range 2 {
		checkRecords(t, b, long(1))
		checkError(t, b.Append(short(2)), api.ErrDown)
		checkError(t, b.Renew(nil), api.ErrDown)
	}
	d.Start()
	checkBook(t, b, d, long(1))
	checkError(t, b.Append(short(2)), api.OK)
	checkBook(t, b, d, long(1), short(2))
}

// P9.1 and the consequence: torn writes

func TestAppendTorn(t *testing.T) {
	for _, before := range [][]api.Rec{{}, {short(1)}, {long(1), short(2)}} {
		for _, r := range []api.Rec{short(9), long(9)} {
			size := len(contentOf(t, r))
			for n := -1; n <= size+1; n++ {
				d := filled(t, 1000, contentOf(t, before...))
				b := opened(t, d)
				d.Tear(n)
				checkError(t, b.Append(r), api.ErrDown)
				checkError(t, b.Append(r), api.ErrDown)
				checkRecords(t, b, before...)
				d.Start()
				checkContent(t, d, contentOf(t, before...)+contentOf(t, r)[:min(max(n, 0), size)])
				want := slices.Clone(before)
				if n >= size {
					want = append(want, r)
				}
				later := opened(t, d)
				checkBook(t, later, d, want...)
				checkError(t, later.Append(short(3)), api.OK)
				checkBook(t, later, d, append(want, short(3))...)
				checkBook(t, opened(t, d), d, append(want, short(3))...)
			}
		}
	}
}

func TestRenewTorn(t *testing.T) {
	for _, before := range [][]api.Rec{{}, {short(1)}, {long(1), short(2)}} {
		for _, list := range [][]api.Rec{{}, {short(9)}, {long(8), short(9)}} {
			size := len(contentOf(t, list...))
			for n := -1; n <= size+1; n++ {
				d := filled(t, 1000, contentOf(t, before...))
				b := opened(t, d)
				d.Tear(n)
				checkError(t, b.Renew(list), api.ErrDown)
				checkRecords(t, b, before...)
				d.Start()
				want := before
				if max(n, 0) >= size {
					want = list
				}
				checkBook(t, opened(t, d), d, want...)
			}
		}
	}
}

// P9.1: Renew

func TestRenew(t *testing.T) {
	d := disk.New(1000)
	b := opened(t, d)
	for _, list := range [][]api.Rec{
		{}, nil, {short(1)}, {short(1)}, {short(2), long(3), short(2)}, {long(4)}, {}, {long(5), long(5)}, nil, {short(6)},
	} {
		checkError(t, b.Renew(list), api.OK)
		checkBook(t, b, d, list...)
		checkBook(t, opened(t, d), d, list...)
		checkError(t, b.Append(short(7)), api.OK)
		checkBook(t, b, d, append(slices.Clone(list), short(7))...)
	}
}

func TestRenewUnsound(t *testing.T) {
	d := filled(t, 1000, contentOf(t, long(1), short(2)))
	b := opened(t, d)
	d.Tear(1000)
	for _, r := range unsound() {
		for _, list := range [][]api.Rec{{r}, {r, r}, {short(1), r}, {r, short(1)}, {short(1), r, long(2)}, {short(1), long(2), r}} {
			checkError(t, b.Renew(list), api.ErrForm)
			checkBook(t, b, d, long(1), short(2))
		}
	}
}

// Only what comes takes room, not what it replaces.
func TestRenewFull(t *testing.T) {
	d := disk.New(3*shortSize + 5)
	b := opened(t, d)
	three := []api.Rec{short(1), short(2), short(3)}
	checkError(t, b.Renew(three), api.OK)
	checkError(t, b.Renew(append(three, short(4))), api.ErrFull)
	checkBook(t, b, d, three...)
	checkError(t, b.Renew([]api.Rec{short(5), short(6), short(7)}), api.OK)
	checkError(t, b.Append(short(8)), api.ErrFull)
	checkBook(t, b, d, short(5), short(6), short(7))
	checkError(t, b.Renew([]api.Rec{long(1)}), api.ErrFull)
	checkError(t, b.Renew([]api.Rec{short(9)}), api.OK)
	checkError(t, b.Append(short(8)), api.OK)
	checkBook(t, b, d, short(9), short(8))
	none := disk.New(0)
	checkError(t, opened(t, none).Renew(nil), api.OK)
	checkError(t, opened(t, none).Renew(three), api.ErrFull)
}

// Renew removes what a torn Append has left.
func TestRenewBehindTorn(t *testing.T) {
	d := filled(t, 1000, contentOf(t, short(1)))
	b := opened(t, d)
	d.Tear(9)
	checkError(t, b.Append(long(2)), api.ErrDown)
	d.Start()
	checkError(t, b.Renew([]api.Rec{short(3)}), api.OK)
	checkError(t, b.Append(short(4)), api.OK)
	checkBook(t, b, d, short(3), short(4))
	checkBook(t, opened(t, d), d, short(3), short(4))
}

// P9.1: nil books, and those that Open did not return

func TestNilBook(t *testing.T) {
	var b *Book
	for _, r := range append(unsound(), short(1), long(2)) {
		checkError(t, b.Append(r), api.ErrArg)
		checkError(t, b.Renew([]api.Rec{r}), api.ErrArg)
	}
	checkError(t, b.Renew(nil), api.ErrArg)
	if list := b.Records(); list != nil {
		t.Errorf("Records of a nil book = %v", list)
	}
}

func TestZeroBook(t *testing.T) {
	b := new(Book)
	checkError(t, b.Append(short(1)), api.ErrArg)
	checkError(t, b.Append(api.Rec{}), api.ErrForm)
	checkError(t, b.Renew([]api.Rec{short(1)}), api.ErrArg)
	checkRecords(t, b)
}

// R4: records that were written and read may be changed without the book.

func TestArgumentsApart(t *testing.T) {
	for _, write := range []func(*Book, api.Rec) api.Errno{
		(*Book).Append,
		func(b *Book, r api.Rec) api.Errno { return b.Renew([]api.Rec{r}) },
	} {
		d := disk.New(1000)
		b := opened(t, d)
		r := long(1)
		r.Conf.Members = append(r.Conf.Members, 77, 77)[:3]
		r.Entries = append(r.Entries, api.Entry{Seq: 77})[:2]
		frag := append(r.Entries[0].Frag, 77, 77)
		r.Entries[0].Frag = frag[:4]
		checkError(t, write(b, r), api.OK)
		checkError(t, b.Append(short(2)), api.OK)
		if encoded(t, r) != encoded(t, long(1)) || !slices.Equal(r.Conf.Members[:5], []int{7, 0, 15, 77, 77}) || r.Entries[:3][2].Seq != 77 || !slices.Equal(frag[4:], []byte{77, 77}) {
			t.Errorf("an argument was changed: %#v", r)
		}
		frag[0]++
		r.Conf.Members[0]++
		r.Entries[1].Seq++
		checkBook(t, b, d, long(1), short(2))
	}
}

func TestListApart(t *testing.T) {
	b := opened(t, disk.New(1000))
	list := []api.Rec{short(1), short(2), short(77)}
	checkError(t, b.Renew(list[:2]), api.OK)
	checkError(t, b.Append(short(3)), api.OK)
	if list[0].Last != 1 || list[1].Last != 2 || list[2].Last != 77 {
		t.Errorf("the list was changed: %v", list)
	}
	list[0] = short(9)
	checkRecords(t, b, short(1), short(2), short(3))
}

func TestResultsApart(t *testing.T) {
	d := disk.New(1000)
	b := opened(t, d)
	checkError(t, b.Append(long(1)), api.OK)
	checkError(t, b.Append(short(2)), api.OK)
	for _, book := range []*Book{b, opened(t, d)} {
		first, second := book.Records(), book.Records()
		for _, r := range first {
			for i := range r.Conf.Members[:cap(r.Conf.Members)] {
				r.Conf.Members[:cap(r.Conf.Members)][i] = 1
			}
			for _, e := range r.Entries {
				for i := range e.Frag[:cap(e.Frag)] {
					e.Frag[:cap(e.Frag)][i] = 55
				}
			}
			clear(r.Entries[:cap(r.Entries)])
		}
		clear(first[:cap(first)])
		checkRecords(t, book, long(1), short(2))
		if len(second) != 2 || encoded(t, second[0]) != encoded(t, long(1)) || encoded(t, second[1]) != encoded(t, short(2)) {
			t.Error("two results share memory")
		}
		spare := slices.Clone(second[:cap(second)])
		checkError(t, book.Append(short(3)), api.OK)
		checkError(t, book.Renew([]api.Rec{long(1), short(2)}), api.OK)
		for i, r := range second[:cap(second)] {
			if r.Kind != spare[i].Kind || r.Last != spare[i].Last {
				t.Error("a result shares memory with the book")
			}
		}
	}
}

// What is read from the disk is not the book's memory.
func TestContentApart(t *testing.T) {
	d := filled(t, 1000, contentOf(t, long(1), short(2))+"torn")
	b := opened(t, d)
	content, _ := d.Read()
	clear(content)
	checkBook(t, b, d, long(1), short(2))
	checkError(t, d.Replace(nil), api.OK)
	checkRecords(t, b, long(1), short(2))
}

// R5: books know each other by their disk alone.

func TestBooksApart(t *testing.T) {
	one, two := disk.New(100), disk.New(100)
	a, b := opened(t, one), opened(t, two)
	checkError(t, a.Append(short(1)), api.OK)
	checkError(t, b.Append(short(2)), api.OK)
	one.Crash()
	checkError(t, b.Append(short(3)), api.OK)
	checkRecords(t, a, short(1))
	checkBook(t, b, two, short(2), short(3))
}

func TestBooksOfOneDisk(t *testing.T) {
	d := disk.New(100)
	a, b := opened(t, d), opened(t, d)
	checkError(t, a.Append(short(1)), api.OK)
	checkError(t, b.Append(short(2)), api.OK)
	checkRecords(t, a, short(1))
	checkRecords(t, b, short(2))
	checkBook(t, opened(t, d), d, short(1), short(2))
	checkError(t, a.Renew([]api.Rec{short(3)}), api.OK)
	checkRecords(t, b, short(2))
	checkBook(t, opened(t, d), d, short(3))
}

// P9.1: all short sequences of calls, against a model.

// model is what a disk and its book should hold, as a value: each call makes
// another one.
type model struct {
	content string
	power   bool
	tear    int // -1 for none
	codes   []string
}

const modelRoom = 3*shortSize + 3

// wrote returns the model after a write of b behind before, and its error.
func (m model) wrote(before, b string, whole bool) (model, api.Errno) {
	after := before + b
	switch {
	case !m.power:
		return m, api.ErrDown
	case len(after) > modelRoom:
		return m, api.ErrFull
	case m.tear < 0:
		m.content = after
		return m, api.OK
	case m.tear >= len(b):
		m.content = after
	case !whole:
		m.content = after[:len(before)+m.tear]
	}
	m.power, m.tear = false, -1
	return m, api.ErrDown
}

func (m model) opened() (model, api.Errno) {
	if !m.power {
		return m, api.ErrDown
	}
	codes, size := parsed(m.content)
	if size < len(m.content) {
		var e api.Errno
		if m, e = m.wrote("", m.content[:size], true); e != api.OK {
			return m, e
		}
	}
	m.codes = codes
	return m, api.OK
}

func (m model) appended(r api.Rec) (model, api.Errno) {
	code, e := entry.Encode(r)
	if e != api.OK {
		return m, e
	}
	m, e = m.wrote(m.content, framed(string(code)), false)
	if e == api.OK {
		m.codes = append(slices.Clone(m.codes), string(code))
	}
	return m, e
}

func (m model) renewed(list []api.Rec) (model, api.Errno) {
	var codes []string
	content := ""
	for _, r := range list {
		code, e := entry.Encode(r)
		if e != api.OK {
			return m, e
		}
		codes = append(codes, string(code))
		content += framed(string(code))
	}
	m, e := m.wrote("", content, true)
	if e == api.OK {
		m.codes = codes
	}
	return m, e
}

// machine is a disk and its book.
type machine struct {
	disk *disk.Disk
	book *Book
}

// call is a call of a machine, and of its model; n makes the records of each
// call different ones.
type call struct {
	name string
	real func(x *machine, n int) api.Errno
	want func(m model, n int) (model, api.Errno)
}

func (x *machine) open(int) api.Errno {
	b, e := Open(x.disk)
	if (b == nil) == (e == api.OK) {
		return -1
	}
	if e == api.OK {
		x.book = b
	}
	return e
}

func calls() []call {
	list := []call{
		{"Crash", func(x *machine, _ int) api.Errno { x.disk.Crash(); return api.OK },
			func(m model, _ int) (model, api.Errno) { m.power = false; return m, api.OK }},
		{"Start", func(x *machine, _ int) api.Errno { x.disk.Start(); return api.OK },
			func(m model, _ int) (model, api.Errno) { m.power, m.tear = true, -1; return m, api.OK }},
		{"Open", (*machine).open, func(m model, _ int) (model, api.Errno) { return m.opened() }},
	}
	for _, size := range []int{0, 5, shortSize - 1, shortSize, 2 * shortSize} {
		list = append(list, call{"Tear", func(x *machine, _ int) api.Errno { x.disk.Tear(size); return api.OK },
			func(m model, _ int) (model, api.Errno) { m.tear = size; return m, api.OK }})
	}
	for _, record := range []func(int) api.Rec{short, long, func(int) api.Rec { return api.Rec{} }} {
		list = append(list, call{"Append", func(x *machine, n int) api.Errno { return x.book.Append(record(n)) },
			func(m model, n int) (model, api.Errno) { return m.appended(record(n)) }})
	}
	for _, records := range []func(int) []api.Rec{
		func(int) []api.Rec { return nil },
		func(n int) []api.Rec { return []api.Rec{short(n), short(n + 10)} },
		func(n int) []api.Rec { return []api.Rec{short(n), short(n), short(n), short(n)} },
		func(n int) []api.Rec { return []api.Rec{short(n), {}} },
	} {
		list = append(list, call{"Renew", func(x *machine, n int) api.Errno { return x.book.Renew(records(n)) },
			func(m model, n int) (model, api.Errno) { return m.renewed(records(n)) }})
	}
	return list
}

func newMachine(t *testing.T) *machine {
	t.Helper()
	d := disk.New(modelRoom)
	return &machine{d, opened(t, d)}
}

// agrees reports whether all that x shows is what m holds.
func (x *machine) agrees(t *testing.T, m model) bool {
	t.Helper()
	var codes []string
	for _, r := range x.book.Records() {
		codes = append(codes, encoded(t, r))
	}
	content, e := x.disk.Read()
	if x.disk.Up() != m.power || !slices.Equal(codes, m.codes) {
		return false
	}
	return e == api.ErrDown && !m.power || e == api.OK && string(content) == m.content
}

func TestAllSequences(t *testing.T) {
	const longest = 5
	list := calls()
	var follow func(m model, made []int)
	follow = func(m model, made []int) {
		if t.Failed() || len(made) == longest {
			return
		}
		for c := range list {
			next, want := list[c].want(m, len(made))
			x := newMachine(t)
			for i, earlier := range made {
				list[earlier].real(x, i)
			}
			got := list[c].real(x, len(made))
			same := x.agrees(t, next)
			x.disk.Start()
			restarted := next
			restarted.power = true
			if got != want || !same || !x.agrees(t, restarted) {
				t.Errorf("%v, then %s (%d): %d, want %d, %#v", made, list[c].name, c, got, want, next)
				return
			}
			follow(next, append(slices.Clone(made), c))
		}
	}
	follow(model{power: true, tear: -1}, nil)
}

func FuzzSequence(f *testing.F) {
	f.Add([]byte{8, 4, 8, 1, 2, 8, 12, 6, 8, 1, 2})
	list := calls()
	f.Fuzz(func(t *testing.T, script []byte) {
		x, m := newMachine(t), model{power: true, tear: -1}
		for i, b := range script {
			c := list[int(b)%len(list)]
			var want api.Errno
			m, want = c.want(m, i%50)
			if got := c.real(x, i%50); got != want || !x.agrees(t, m) {
				t.Fatalf("call %d of %v: %d, want %d, %#v", i, script, got, want, m)
			}
		}
	})
}

func FuzzOpen(f *testing.F) {
	f.Add([]byte(contentOf(f, short(1), long(2), short(3))))
	f.Add([]byte(framed("") + framed("x")))
	f.Fuzz(func(t *testing.T, content []byte) {
		checkOpen(t, string(content))
		checkOpen(t, contentOf(t, long(1))+string(content))
		checkOpen(t, framed(string(content)))
	})
}

// The consequence: whatever is torn, each record whose Append returned OK is
// there after Start and Open, and at most the torn one besides.
func TestNothingLost(t *testing.T) {
	d := disk.New(api.MaxRoom)
	b := opened(t, d)
	var kept []int
	for n := range 400 {
		r := short(n)
		if n%5 == 0 {
			r = long(n)
		}
		torn := n%3 == 0
		if torn {
			d.Tear(n * 7 % 90)
		}
		e := b.Append(r)
		if torn != (e == api.ErrDown) || !torn && e != api.OK {
			t.Fatalf("record %d: %d", n, e)
		}
		if !torn {
			kept = append(kept, n)
			continue
		}
		d.Start()
		b = opened(t, d)
		var have []int
		for _, r := range b.Records() {
			have = append(have, r.Last)
		}
		if len(have) == len(kept)+1 && have[len(kept)] == n {
			kept = append(kept, n)
		}
		if !slices.Equal(have, kept) {
			t.Fatalf("behind record %d: %v, want %v", n, have, kept)
		}
	}
}

// The largest disk, full of records.
func TestLargestDisk(t *testing.T) {
	d := disk.New(api.MaxRoom)
	b := opened(t, d)
	r := api.Rec{Kind: api.RecEntry, Entries: []api.Entry{{Seq: 1, Op: api.Put, Key: "key", Size: 256, Frag: make([]byte, 256)}}}
	size := len(contentOf(t, r))
	for i := range api.MaxRoom / size {
		if e := b.Append(r); e != api.OK {
			t.Fatalf("record %d: %d", i, e)
		}
	}
	checkError(t, b.Append(r), api.ErrFull)
	checkError(t, d.Append([]byte("torn")), api.OK)
	if count := len(opened(t, d).Records()); count != api.MaxRoom/size {
		t.Errorf("%d records, want %d", count, api.MaxRoom/size)
	}
}
